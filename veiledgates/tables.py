"""Public tables: selectors, and the switch that leads covers to a key."""

from veiledgates.checks import check_alike, check_numbers, is_number
from veiledgates.covers import Cover
from veiledgates.errors import InvalidNumber, Unlike
from veiledgates.polys import Poly
from veiledgates.reading import head_sizes, rows_below_head, split_text
from veiledgates.residues import digits
from veiledgates.rings import RingCover
from veiledgates.texts import spaced


class Selector:
    """The covered bit by which ring covers are picked; it never changes.

    It is made of a list of l pairs, which are tuples of two ring covers.
    """

    def __init__(self, pairs):
        first, _ = pairs[0]
        self.sizes = first.sizes
        self._pairs = list(pairs)

    def pair(self, at):
        """Return the tuple of the two ring covers with an index."""
        if not is_number(at, 0, self.sizes.places - 1):
            raise InvalidNumber(at)
        return self._pairs[at]

    def __eq__(self, other):
        return isinstance(other, Selector) and self.sizes == other.sizes and self._pairs == other._pairs


class Switch:
    """The covers that lead from a row of bits to a key; it never changes.

    It is made of a list of covers, in which the l covers of each bit stand together.
    """

    def __init__(self, sizes, covers):
        self.sizes = sizes
        self.width = len(covers) // sizes.places
        self._covers = list(covers)

    def cover(self, at, place):
        """Return the cover for a bit and a digit place."""
        if not is_number(at, 0, self.width - 1):
            raise InvalidNumber(at)
        if not is_number(place, 0, self.sizes.places - 1):
            raise InvalidNumber(place)
        return self._covers[at * self.sizes.places + place]

    def led(self, numbers, body):
        """Return the cover to which a row of numbers and a body are led."""
        check_numbers(numbers, self.width)
        # A body that is no number is refused by the cover itself.
        found = Cover(self.sizes, [0] * self.sizes.length, body)
        row = [digit for number in numbers for digit in digits(number, self.sizes)]
        for digit, cover in zip(row, self._covers):
            found = found - cover * digit
        return found

    def moved(self, cover):
        """Return a cover led to the key of the switch."""
        check_alike(self, cover)
        if self.width != self.sizes.length:
            raise Unlike()
        return self.led(cover.mask(), cover.body)

    def __eq__(self, other):
        return isinstance(other, Switch) and self.sizes == other.sizes and self._covers == other._covers


def _ring_of(sizes, row):
    return RingCover(Poly(sizes, row[:sizes.ring]), Poly(sizes, row[sizes.ring:]))


def _public_of(sizes, rows):
    """Return the public tables whose lines, but for the first one, have rows of numbers."""
    many_rings = 2 * sizes.length * sizes.places
    rings = [_ring_of(sizes, row) for row in rows[:many_rings]]
    pairs = list(zip(rings[::2], rings[1::2]))
    starts = range(0, len(pairs), sizes.places)
    selectors = [Selector(pairs[start:start + sizes.places]) for start in starts]
    covers = [Cover(sizes, row[:-1], row[-1]) for row in rows[many_rings:]]
    return Public(selectors, Switch(sizes, covers))


class Public:
    """What one needs to refresh covers without their key; it never changes."""

    def __init__(self, selectors, switch):
        self.sizes = switch.sizes
        self.switch = switch
        self._selectors = list(selectors)

    @staticmethod
    def read(text):
        """Return the public tables that have a text."""
        lines, rest = split_text(text)
        sizes = head_sizes(lines, "public")
        ring_widths = [2 * sizes.ring] * (2 * sizes.length * sizes.places)
        cover_widths = [sizes.length + 1] * (sizes.ring * sizes.places)
        rows = rows_below_head(lines, rest, ring_widths + cover_widths, sizes.modulus - 1)
        return _public_of(sizes, rows)

    def selector(self, at):
        """Return the selector of a bit of the key."""
        if not is_number(at, 0, self.sizes.length - 1):
            raise InvalidNumber(at)
        return self._selectors[at]

    def text(self):
        """Return the line of the sizes, and a line for each ring cover and each cover."""
        lines = [f"public {self.sizes}"]
        places = range(self.sizes.places)
        for selector in self._selectors:
            for at in places:
                for ring in selector.pair(at):
                    lines.append(spaced(ring.first.numbers() + ring.second.numbers()))
        for at in range(self.switch.width):
            for place in places:
                lines.append(self.switch.cover(at, place).text())
        return "".join([f"{line}\n" for line in lines])

    def __eq__(self, other):
        return (
            isinstance(other, Public)
            and self.sizes == other.sizes
            and self._selectors == other._selectors
            and self.switch == other.switch
        )
