"""Ring covers: pairs of polynomials A and C."""

from veiledgates.checks import check_alike
from veiledgates.polys import Poly


class RingCover:
    """A ring cover; it never changes."""

    def __init__(self, first, second):
        check_alike(first, second)
        self.sizes = first.sizes
        self.first = first
        self.second = second

    @staticmethod
    def start(sizes, number):
        """Return the start for a number: no mask, and all numbers q // 8 turned back by it."""
        level = Poly(sizes, [sizes.eighth] * sizes.ring)
        return RingCover(Poly(sizes, [0] * sizes.ring), level.turned(-number))

    def turned(self, by):
        """Return the ring cover with both polynomials turned by a number."""
        return RingCover(self.first.turned(by), self.second.turned(by))

    def __add__(self, other):
        if not isinstance(other, RingCover):
            return NotImplemented
        return RingCover(self.first + other.first, self.second + other.second)

    def __sub__(self, other):
        if not isinstance(other, RingCover):
            return NotImplemented
        return RingCover(self.first - other.first, self.second - other.second)

    def __neg__(self):
        return RingCover(-self.first, -self.second)

    def __mul__(self, other):
        if not isinstance(other, Poly):
            return NotImplemented
        return RingCover(self.first * other, self.second * other)

    def __eq__(self, other):
        return isinstance(other, RingCover) and self.first == other.first and self.second == other.second
