"""Single numbers modulo q: centered, in digits, and rounded."""


def centered(value, sizes):
    """Return the number from -q/2 to q/2 - 1 that equals a number modulo q."""
    residue = value % sizes.modulus
    if residue >= sizes.modulus // 2:
        return residue - sizes.modulus
    return residue


def digits(value, sizes):
    """Return the list of the l digits of a number, the lowest first."""
    base = sizes.base
    rest = value % sizes.modulus
    found = []
    for _ in range(sizes.places):
        digit = rest % base
        if digit >= base // 2:
            digit = digit - base
        found.append(digit)
        rest = (rest - digit) // base
    return found


def whole(row, sizes):
    """Return the residue that a list of any numbers gives as digits."""
    total = 0
    scale = 1
    for number in row:
        total = total + number * scale
        # The scale stays small, so that a long row gives no great numbers.
        scale = scale * sizes.base % sizes.modulus
    return total % sizes.modulus


def rounded(value, sizes):
    """Return the rounded value of a number, from 0 to 2 N - 1."""
    modulus = sizes.modulus
    steps = 2 * sizes.ring
    return (steps * (value % modulus) + modulus // 2) // modulus % steps
