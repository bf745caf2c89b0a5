"""Polynomials: rows of N residues, where X to the power N is -1."""

from veiledgates.checks import check_alike, check_numbers, is_any_number, is_number
from veiledgates.errors import InvalidNumber
from veiledgates.residues import centered
from veiledgates.rows import packed_row_product
from veiledgates.texts import with_commas


class Poly:
    """A polynomial; it never changes."""

    def __init__(self, sizes, numbers):
        check_numbers(numbers, sizes.ring)
        self.sizes = sizes
        self._numbers = [number % sizes.modulus for number in numbers]

    @staticmethod
    def one_number(sizes, value, at=0):
        """Return the polynomial with a number at an index and 0 elsewhere."""
        if not is_number(at, 0, sizes.ring - 1):
            raise InvalidNumber(at)
        return Poly(sizes, [value if k == at else 0 for k in range(sizes.ring)])

    def numbers(self):
        """Return the list of the N residues."""
        return list(self._numbers)

    def centered_numbers(self):
        """Return the list of the centered values of the residues."""
        return [centered(number, self.sizes) for number in self._numbers]

    def turned(self, by):
        """Return the product with X to the power of a number."""
        ring = self.sizes.ring
        # Behind the numbers stand their negatives: turning by N negates, and by 2 N it changes nothing.
        cycle = self._numbers + [-number for number in self._numbers]
        return Poly(self.sizes, [cycle[(at - by) % (2 * ring)] for at in range(ring)])

    def greatest(self):
        """Return the greatest absolute value among the centered numbers."""
        most = 0
        for number in self.centered_numbers():
            if abs(number) > most:
                most = abs(number)
        return most

    def __abs__(self):
        return self.greatest()

    def __add__(self, other):
        if not isinstance(other, Poly):
            return NotImplemented
        check_alike(self, other)
        return Poly(self.sizes, [one + two for one, two in zip(self._numbers, other._numbers)])

    def __sub__(self, other):
        if not isinstance(other, Poly):
            return NotImplemented
        check_alike(self, other)
        return Poly(self.sizes, [one - two for one, two in zip(self._numbers, other._numbers)])

    def __neg__(self):
        return Poly(self.sizes, [-number for number in self._numbers])

    def __mul__(self, other):
        if isinstance(other, Poly):
            check_alike(self, other)
            return Poly(self.sizes, packed_row_product(self._numbers, other._numbers, self.sizes.modulus))
        if is_any_number(other):
            return Poly(self.sizes, [number * other for number in self._numbers])
        return NotImplemented

    def __rmul__(self, other):
        if not is_any_number(other):
            return NotImplemented
        return self * other

    def __eq__(self, other):
        return isinstance(other, Poly) and self.sizes == other.sizes and self._numbers == other._numbers

    def __repr__(self):
        return f"Poly({with_commas(self._numbers)})"
