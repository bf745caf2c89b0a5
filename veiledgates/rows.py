"""Products of rows of residues, two ways, where X to the power N is -1."""


def _plain_number(first, second, at):
    many = len(first)
    total = 0
    for k, value in enumerate(first):
        if k <= at:
            total = total + value * second[at - k]
        else:
            total = total - value * second[many + at - k]
    return total


def plain_row_product(first, second, modulus):
    """Return the product of two rows of N residues by sums of products."""
    return [_plain_number(first, second, at) % modulus for at in range(len(first))]


def _packed(row, width):
    total = 0
    for value in reversed(row):
        total = (total << width) + value
    return total


def _unpacked(packed, width, many):
    mask = (1 << width) - 1
    return [(packed >> (width * at)) & mask for at in range(many)]


def packed_row_product(first, second, modulus):
    """Return the product of two rows of N residues by one product of great numbers."""
    many = len(first)
    # No sum of N products of residues reaches this, so no place runs over into the next one.
    width = (many * modulus * modulus).bit_length()
    sums = _unpacked(_packed(first, width) * _packed(second, width), width, 2 * many)
    return [(sums[at] - sums[many + at]) % modulus for at in range(many)]
