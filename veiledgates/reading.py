"""How texts are read: line by line, where each line has one right form."""

from veiledgates.errors import BadSizes, InvalidText
from veiledgates.sizes import Sizes
from veiledgates.texts import written_numbers

# None of the five numbers of sizes can be greater.
GREATEST_FIELD = 65536


def split_text(text):
    """Return the pair of the list of the lines of a text and what stands behind its last line feed."""
    if not isinstance(text, str):
        raise InvalidText(0)
    pieces = text.split("\n")
    return pieces[:-1], pieces[-1]


def _sizes_of(words):
    numbers = written_numbers(words, 0, GREATEST_FIELD)
    if numbers is None or len(numbers) != 5:
        return None
    try:
        return Sizes(*numbers)
    except BadSizes:
        return None


def head_sizes(lines, word):
    """Return the sizes that stand behind a word in the first of the lines."""
    words = lines[0].split(" ") if lines else [""]
    sizes = _sizes_of(words[1:]) if words[0] == word else None
    if sizes is None:
        raise InvalidText(0)
    return sizes


def rows_below_head(lines, rest, widths, most):
    """Return the rows of numbers up to most in all lines but the first one, as many as there are widths."""
    rows = []
    for line in lines[1:]:
        row = written_numbers(line.split(" "), 0, most)
        if len(rows) == len(widths) or row is None or len(row) != widths[len(rows)]:
            raise InvalidText(len(rows) + 1)
        rows.append(row)
    # What stands behind the last line feed has the very index at which a text that is too short ends.
    if rest or len(rows) < len(widths):
        raise InvalidText(len(lines))
    return rows
