"""How a line of a program is parted into tokens."""

MOST_LETTERS = 6
MOST_FIGURES = 3
DOUBLE_SIGNS = ("<<", ">>")
SIGNS = ("+", "-", "&", "|", "^", "~", "=", "<", "(", ")", "[", "]", ",")


def is_letter(mark):
    """Tell whether a character is a lowercase letter."""
    return "a" <= mark <= "z"


def is_figure(mark):
    """Tell whether a character is a figure."""
    return "0" <= mark <= "9"


def _run_at(line, start, belongs):
    """Return the longest run from a place on whose characters all belong."""
    end = start
    while end < len(line) and belongs(line[end]):
        end += 1
    return line[start:end]


def _token_at(line, at):
    """Return the token that begins at a place, or None if there is none that may stand."""
    letters = _run_at(line, at, is_letter)
    if letters:
        return letters if len(letters) <= MOST_LETTERS else None
    figures = _run_at(line, at, is_figure)
    if figures:
        stands = figures == "0" or (len(figures) <= MOST_FIGURES and figures[0] != "0")
        return figures if stands else None
    double = line[at:at + 2]
    if double in DOUBLE_SIGNS:
        return double
    return line[at] if line[at] in SIGNS else None


def tokens(line):
    """Return the list of the tokens of a line, or None if one of its characters or runs may not stand."""
    found = []
    at = 0
    while at < len(line):
        if line[at] == " ":
            at += 1
            continue
        token = _token_at(line, at)
        if token is None:
            return None
        found.append(token)
        at += len(token)
    return found
