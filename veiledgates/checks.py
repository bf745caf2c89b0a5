"""What counts as a number, a bit, a name or a row, and who is alike."""

from veiledgates.errors import BadBits, BadList, Unlike


def is_any_number(value):
    """Tell whether any value is a number, whatever its size."""
    # For Python, True and False are integers; here they are no numbers.
    return isinstance(value, int) and not isinstance(value, bool)


def is_number(value, least, most):
    """Tell whether any value is a number from least to most."""
    return is_any_number(value) and least <= value <= most


def is_bit(value):
    """Tell whether any value is the number 0 or 1."""
    return is_number(value, 0, 1)


def is_name(value):
    """Tell whether any value is a string of 1 to 6 lowercase letters."""
    if not isinstance(value, str) or not 1 <= len(value) <= 6:
        return False
    return all(["a" <= letter <= "z" for letter in value])


def _is_row(value, many):
    return isinstance(value, (list, tuple)) and len(value) == many


def check_bits(value, many):
    """Raise BadBits unless a value is a list or tuple of so many bits."""
    if not _is_row(value, many):
        raise BadBits(-1)
    for at, item in enumerate(value):
        if not is_bit(item):
            raise BadBits(at)


def check_numbers(value, many):
    """Raise BadList unless a value is a list or tuple of so many numbers."""
    if not _is_row(value, many):
        raise BadList(-1)
    for at, item in enumerate(value):
        if not is_any_number(item):
            raise BadList(at)


def check_alike(one, other):
    """Raise Unlike unless two objects that have sizes have equal ones."""
    if one.sizes != other.sizes:
        raise Unlike()


def all_rows(many):
    """Return the ascending list of all rows of so many bits."""
    rows = [()]
    for _ in range(many):
        rows = [(*row, bit) for row in rows for bit in (0, 1)]
    return rows
