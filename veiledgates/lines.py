"""The lines of a program by their forms."""

from veiledgates.expressions import NoForm, expression_at, name_of, number_of


class Line:
    """A line: its word and, where it has such, its name, its number and the steps of its expressions."""

    def __init__(self, word, *, name="", number=0, index=(), worth=()):
        self.word = word
        self.name = name
        self.number = number
        # The index of a line set is an expression, too.
        self.index = list(index)
        self.worth = list(worth)

    def all_steps(self):
        """Return the list of the steps of all expressions."""
        return self.index + self.worth


def _check_tokens(row, at, wanted):
    if row[at:at + len(wanted)] != wanted:
        raise NoForm("another token is missing")


def _check_many(row, many):
    if len(row) != many:
        raise NoForm("there are too few tokens, or too many")


def _worth_at(row, at):
    """Return the steps of the expression that goes from an index to the end."""
    steps, end = expression_at(row, at)
    _check_many(row, end)
    return steps


def _line_of(row):
    word = row[0]
    if word == "let":
        _check_tokens(row, 2, ["be"])
        return Line(word, name=name_of(row[1]), worth=_worth_at(row, 3))
    if word == "set":
        _check_tokens(row, 2, ["["])
        index, end = expression_at(row, 3)
        _check_tokens(row, end, ["]", "be"])
        return Line(word, name=name_of(row[1]), index=index, worth=_worth_at(row, end + 2))
    if word == "out":
        return Line(word, worth=_worth_at(row, 1))
    if word == "row":
        _check_many(row, 3)
        return Line(word, name=name_of(row[1]), number=number_of(row[2]))
    if word == "end":
        _check_many(row, 1)
        return Line(word)
    _check_many(row, 2)
    if word == "in":
        return Line(word, name=name_of(row[1]))
    if word in ("word", "times"):
        return Line(word, number=number_of(row[1]))
    raise NoForm("no line begins so")


def line_of(row):
    """Return the line that a list of tokens is, or None if it has no form."""
    if not row:
        return None
    try:
        return _line_of(row)
    except NoForm:
        return None
