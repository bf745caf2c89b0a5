"""The search for the best weighing for a table of bits."""

from veiledgates.checks import all_rows, is_bit, is_number
from veiledgates.errors import BadTable, InvalidNumber
from veiledgates.weighings import weighing_of

LEAST_SHIFT = -3
MOST_SHIFT = 4

# The numbers of weights of the tables with so many items.
WIDTHS = {2: 1, 4: 2, 8: 3}


def _check_search(table, most):
    if not isinstance(table, (list, tuple)) or len(table) not in WIDTHS:
        raise BadTable(-1)
    for at, item in enumerate(table):
        if not is_bit(item):
            raise BadTable(at)
    if not is_number(most, 1, 3):
        raise InvalidNumber(most)


def _candidates(many, most):
    """Return the list of all candidates, in the ascending order of their weights and shifts."""
    choices = [weight for weight in range(-most, most + 1) if weight != 0]
    rows = [()]
    for _ in range(many):
        rows = [(*row, weight) for row in rows for weight in choices]
    shifts = range(LEAST_SHIFT, MOST_SHIFT + 1)
    return [weighing_of(row, shift=shift) for row in rows for shift in shifts]


def _least_margin(weighing):
    return min([int(margin) for margin in weighing.margins()])


def _is_better(one, other):
    """Tell whether a total weighing comes ahead of another one, whatever their order among the candidates."""
    # The ratios are compared without fractions.
    left = _least_margin(one) * other.total
    right = _least_margin(other) * one.total
    return left > right or (left == right and one.total < other.total)


def best_weighing(table, *, most):
    """Return the best weighing for a table, or None if no candidate has it."""
    _check_search(table, most)
    best = None
    for weighing in _candidates(WIDTHS[len(table)], most):
        if weighing.table() == tuple(table) and (best is None or _is_better(weighing, best)):
            best = weighing
    return best


def _first_unlike(one, other):
    """Return the first index at which two rows of the same length differ, or None."""
    for at, item in enumerate(one):
        if item != other[at]:
            return at
    return None


def refusal(table, *, most):
    """Return the list of why each candidate has not the table, or None if one has it."""
    _check_search(table, most)
    many = WIDTHS[len(table)]
    rows = all_rows(many)
    found = []
    for weighing in _candidates(many, most):
        at = _first_unlike(weighing.table(), table)
        if at is None:
            return None
        found.append((tuple(weighing.weights()), weighing.shift, rows[at]))
    return found
