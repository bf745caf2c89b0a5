"""How an expression of a program is read: into steps, which are done one after the other over a stack of words.

A step is a pair of what it is and a value: a number, a word or a row by its name, a shift by its sign, an operator that
takes one word or two from the stack, or an if, which takes three. A row takes its index from the stack.
"""

from veiledgates.scanning import is_figure, is_letter

RESERVED = ("word", "in", "row", "let", "set", "be", "times", "end", "out", "if")
PREFIXES = ("~", "-")
SHIFTS = ("<<", ">>")

# How tight each operator binds; those of one level associate to the left.
LEVELS = {"=": 0, "<": 0, "|": 1, "^": 2, "&": 3, "<<": 4, ">>": 4, "+": 5, "-": 5}
TIGHTEST = 5


class NoForm(ValueError):
    """Tokens that have none of the forms that may stand there."""


def name_of(token):
    """Return a token that is a name."""
    if token == "" or not is_letter(token[0]) or token in RESERVED:
        raise NoForm("a name is missing")
    return token


def number_of(token):
    """Return the number that a token is, of any size."""
    if token == "" or not is_figure(token[0]):
        raise NoForm("a number is missing")
    return int(token)


class Expression:
    """The steps of an expression, while they are read from a list of tokens."""

    def __init__(self, row, at):
        self._row = row
        # The index of the token that is read next, and the steps so far.
        self.at = at
        self.found = []

    def _token(self):
        """Return the next token, or an empty string behind the last one."""
        return self._row[self.at] if self.at < len(self._row) else ""

    def _pass(self, token):
        if self._token() != token:
            raise NoForm("another token is missing")
        self.at += 1

    def take_expression(self, loosest):
        """Read an expression whose operators are not looser than a level."""
        self._take_operand()
        tightest = TIGHTEST
        while loosest <= LEVELS.get(self._token(), -1) <= tightest:
            sign = self._token()
            self.at += 1
            # What binds tighter stands in the operand on the right; behind the number of a shift it has no place.
            tightest = LEVELS[sign]
            if sign in SHIFTS:
                self.found.append((sign, number_of(self._token())))
                self.at += 1
            else:
                self.take_expression(tightest + 1)
                self.found.append(("two", sign))

    def _take_operand(self):
        token = self._token()
        if token in PREFIXES:
            self.at += 1
            self._take_operand()
            self.found.append(("one", token))
        elif token == "(":
            self._take_within("(", ")")
        elif token == "if":
            self._pass("if")
            self._take_within("(", ",")
            self.take_expression(0)
            self._take_within(",", ")")
            self.found.append(("if", ""))
        elif token != "" and is_letter(token[0]):
            self._take_name(name_of(token))
        else:
            self.found.append(("number", number_of(token)))
            self.at += 1

    def _take_within(self, before, behind):
        self._pass(before)
        self.take_expression(0)
        self._pass(behind)

    def _take_name(self, name):
        self.at += 1
        if self._token() == "[":
            self._take_within("[", "]")
            self.found.append(("row", name))
        else:
            self.found.append(("word", name))


def expression_at(row, at):
    """Return the pair of the steps of the expression that begins at an index, and the index behind it."""
    expression = Expression(row, at)
    expression.take_expression(0)
    return expression.found, expression.at
