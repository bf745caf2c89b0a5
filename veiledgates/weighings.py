"""Weighings: bits weighed by numbers, in plain and on covers."""

from veiledgates.checks import all_rows, check_bits, is_any_number, is_number
from veiledgates.covers import Cover, check_covers
from veiledgates.errors import BadWeighing, InvalidNumber, NoName, NotAllowed, TooMany
from veiledgates.refreshing import refreshed
from veiledgates.texts import with_commas

MOST_WEIGHTS = 4
MOST_TOTAL = 12
MOST_SHIFT = 8

# What the levels from 0 to 7 answer, and how far each of them is from those without an answer.
ANSWERS = (None, 1, 1, 1, None, 0, 0, 0)
MARGINS = (0, 1, 2, 1, 0, 1, 2, 1)

# The weights and the shift of each standard weighing.
STANDARD = {
    "same": ((1,), 0),
    "and": ((1, 1), -1),
    "or": ((1, 1), 1),
    "xor": ((2, 2), 2),
    "more": ((1, 1, 1), 0),
    "odd": ((-2, -2, -2), 0),
}


def _total_of(weights):
    return sum([abs(weight) for weight in weights])


def _check_weighing(weights, shift):
    if not 1 <= len(weights) <= MOST_WEIGHTS:
        raise BadWeighing(-1)
    for at, weight in enumerate(weights):
        if not is_any_number(weight) or weight == 0:
            raise BadWeighing(at)
    if _total_of(weights) > MOST_TOTAL:
        raise TooMany(MOST_TOTAL)
    if not is_number(shift, -MOST_SHIFT, MOST_SHIFT):
        raise InvalidNumber(shift)


def _levels_of(weights, shift):
    """Return the list of the levels of all rows, ascending."""
    sums = [shift]
    for weight in weights:
        sums = [before + change for before in sums for change in (-weight, weight)]
    return [number % 8 for number in sums]


class Weighing:
    """One to four weights and a shift; it never changes."""

    def __init__(self, *weights, shift=0):
        _check_weighing(weights, shift)
        self.shift = shift
        self._weights = list(weights)
        self._total = _total_of(weights)
        self._levels = _levels_of(weights, shift)

    @property
    def total(self):
        """The sum of the absolute weights."""
        return self._total

    def weights(self):
        """Return the list of the weights."""
        return list(self._weights)

    def level(self, row):
        """Return the level of a row of bits."""
        check_bits(row, len(self._weights))
        # Rows are listed in ascending order, so a row is the number of its place, written in bits.
        place = 0
        for bit in row:
            place = 2 * place + bit
        return self._levels[place]

    def answer(self, row):
        """Return the answer of a row of bits, or None if there is none."""
        return ANSWERS[self.level(row)]

    def margin(self, row):
        """Return the margin of a row of bits."""
        return MARGINS[self.level(row)]

    def table(self):
        """Return the tuple of the answers of all rows, ascending."""
        return tuple([ANSWERS[level] for level in self._levels])

    def margins(self):
        """Return the list of the margins of all rows, ascending."""
        return [MARGINS[level] for level in self._levels]

    def is_total(self):
        """Tell whether each row has an answer."""
        return None not in self.table()

    def is_modest(self):
        """Tell whether the total is at most three times the margin of each row."""
        return all([self._total <= 3 * margin for margin in self.margins()])

    def allowed(self, sizes):
        """Tell whether sizes allow the weighing."""
        return self.first_refused(sizes) is None

    def first_refused(self, sizes):
        """Return the first row at which sizes refuse the weighing, or None."""
        return self.first_row_beyond(sizes, self._total * sizes.limit)

    def first_row_beyond(self, sizes, noise):
        """Return the first row for which a sum of covers with so much noise is not sure to be refreshed rightly."""
        modulus = sizes.modulus
        needed = 8 * noise * sizes.ring + 2 * modulus * (sizes.length + 1)
        for row, margin in zip(all_rows(len(self._weights)), self.margins()):
            if needed >= modulus * margin * sizes.ring:
                return row
        return None

    def __eq__(self, other):
        return isinstance(other, Weighing) and self._weights == other._weights and self.shift == other.shift

    def __repr__(self):
        return f"Weighing({with_commas(self._weights)}, shift={self.shift})"


def weighing_of(weights, *, shift=0):
    """Return the weighing with a list of weights."""
    if not isinstance(weights, (list, tuple)):
        raise BadWeighing(-1)
    return Weighing(*weights, shift=shift)


def standard(word):
    """Return the standard weighing with a word."""
    if not isinstance(word, str) or word not in STANDARD:
        raise NoName(word)
    weights, shift = STANDARD[word]
    return Weighing(*weights, shift=shift)


def _first_sizes(covers):
    """Return the sizes of the first item of any value, or None if this is no cover."""
    if isinstance(covers, (list, tuple)) and covers and isinstance(covers[0], Cover):
        return covers[0].sizes
    return None


def weighted_sum(weighing, covers):
    """Return the cover that is refreshed when a weighing is done on covers."""
    weights = weighing.weights()
    sizes = _first_sizes(covers)
    check_covers(covers, len(weights), sizes)
    found = Cover(sizes, [0] * sizes.length, 0)
    for weight, cover in zip(weights, covers):
        found = found + cover * weight
    return found.shifted(weighing.shift)


def weighed(public, weighing, covers):
    """Return the cover of a weighing that is done on covers."""
    check_covers(covers, len(weighing.weights()), public.sizes)
    row = weighing.first_refused(public.sizes)
    if row is not None:
        raise NotAllowed(None, row)
    return refreshed(public, weighted_sum(weighing, covers))
