"""Covers: a mask of n residues and a body, which is one more."""

from veiledgates.checks import check_alike, check_numbers, is_any_number, is_bit
from veiledgates.errors import BadCover, InvalidNumber, InvalidText
from veiledgates.texts import spaced, written_numbers


class Cover:
    """A cover; it never changes."""

    def __init__(self, sizes, mask, body):
        check_numbers(mask, sizes.length)
        if not is_any_number(body):
            raise InvalidNumber(body)
        self.sizes = sizes
        self.body = body % sizes.modulus
        self._mask = [number % sizes.modulus for number in mask]

    @staticmethod
    def read(sizes, text):
        """Return the cover that has a text."""
        if not isinstance(text, str):
            raise InvalidText(0)
        residues = written_numbers(text.split(" "), 0, sizes.modulus - 1)
        if residues is None or len(residues) != sizes.length + 1:
            raise InvalidText(0)
        return Cover(sizes, residues[:-1], residues[-1])

    @staticmethod
    def constant(sizes, bit):
        """Return the cover of a bit that has no noise under any key."""
        if not is_bit(bit):
            raise InvalidNumber(bit)
        return Cover(sizes, [0] * sizes.length, sizes.eighth if bit == 1 else -sizes.eighth)

    def mask(self):
        """Return the list of the residues of the mask."""
        return list(self._mask)

    def shifted(self, level):
        """Return the cover with so many levels added to its body."""
        return Cover(self.sizes, self._mask, self.body + level * self.sizes.eighth)

    def text(self):
        """Return the numbers of the mask and the body, with one space between."""
        return spaced([*self._mask, self.body])

    def __add__(self, other):
        if not isinstance(other, Cover):
            return NotImplemented
        check_alike(self, other)
        mask = [one + two for one, two in zip(self._mask, other._mask)]
        return Cover(self.sizes, mask, self.body + other.body)

    def __sub__(self, other):
        if not isinstance(other, Cover):
            return NotImplemented
        check_alike(self, other)
        mask = [one - two for one, two in zip(self._mask, other._mask)]
        return Cover(self.sizes, mask, self.body - other.body)

    def __neg__(self):
        return Cover(self.sizes, [-number for number in self._mask], -self.body)

    def __mul__(self, other):
        if not is_any_number(other):
            return NotImplemented
        return Cover(self.sizes, [number * other for number in self._mask], self.body * other)

    def __rmul__(self, other):
        if not is_any_number(other):
            return NotImplemented
        return self * other

    def __eq__(self, other):
        return (
            isinstance(other, Cover)
            and self.sizes == other.sizes
            and self._mask == other._mask
            and self.body == other.body
        )

    def __str__(self):
        return f"{self.text()}"


def check_covers(value, many, sizes):
    """Raise BadCover unless a value is a list or tuple of so many covers with sizes."""
    if not isinstance(value, (list, tuple)) or len(value) != many:
        raise BadCover(-1)
    for at, item in enumerate(value):
        if not isinstance(item, Cover) or item.sizes != sizes:
            raise BadCover(at)
