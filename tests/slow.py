"""The promises 4 to 13 once more, by their words, over plain lists: what the tests hold the package against."""


def centered(value, q):
    value %= q
    return value - q if value >= q // 2 else value


def digits(value, sizes):
    base, rest, found = sizes.base, value % sizes.modulus, []
    for _ in range(sizes.places):
        digit = rest % base
        digit -= base if digit >= base // 2 else 0
        found.append(digit)
        rest = (rest - digit) // base
    return found


def rounded(value, sizes):
    q, steps = sizes.modulus, 2 * sizes.ring
    return ((steps * (value % q) + q // 2) // q) % steps


def product(one, other, q):
    """The product of two rows, term by term, with X to the power N as -1."""
    many = len(one)
    sums = [0] * many
    for i, left in enumerate(one):
        for j, right in enumerate(other):
            sums[(i + j) % many] += (-1 if i + j >= many else 1) * left * right
    return [value % q for value in sums]


def plus(one, other, q):
    return [(a + b) % q for a, b in zip(one, other)]


def minus(one, other, q):
    return [(a - b) % q for a, b in zip(one, other)]


def turned(row, by, q):
    """The row times X to the power by, one step of X after the other."""
    row = list(row)
    for _ in range(by % (2 * len(row))):
        row = [-row[-1] % q] + row[:-1]
    return row


def drawn_key(sizes, draws):
    bits = [draws.residue(sizes) % 2 for _ in range(sizes.length)]
    return bits, [draws.residue(sizes) % 2 for _ in range(sizes.ring)]


def drawn_cover(sizes, bits, residue, draws):
    """The numbers of the mask, and the body behind them."""
    mask = [draws.residue(sizes) for _ in range(sizes.length)]
    noise = draws.noise(sizes)
    return mask + [(sum(a * s for a, s in zip(mask, bits)) + residue + noise) % sizes.modulus]


def drawn_ring(sizes, poly, draws):
    first = [draws.residue(sizes) for _ in range(sizes.ring)]
    noises = [draws.noise(sizes) for _ in range(sizes.ring)]
    return first, plus(product(first, poly, sizes.modulus), noises, sizes.modulus)


def drawn_selector(sizes, poly, bit, draws):
    pairs = []
    for j in range(sizes.places):
        one = drawn_ring(sizes, poly, draws)
        one[0][0] = (one[0][0] + bit * sizes.base ** j) % sizes.modulus
        other = drawn_ring(sizes, poly, draws)
        other[1][0] = (other[1][0] + bit * sizes.base ** j) % sizes.modulus
        pairs.append((one, other))
    return pairs


def drawn_switch(sizes, bits, row, draws):
    return [[drawn_cover(sizes, bits, bit * sizes.base ** i, draws) for i in range(sizes.places)] for bit in row]


def drawn_public(sizes, bits, poly, draws):
    selectors = [drawn_selector(sizes, poly, bit, draws) for bit in bits]
    return selectors, drawn_switch(sizes, bits, poly, draws)


def led(sizes, switch, numbers, body):
    found = [0] * sizes.length + [body % sizes.modulus]
    for number, covers in zip(numbers, switch):
        for digit, cover in zip(digits(number, sizes), covers):
            found = minus(found, [digit * a for a in cover], sizes.modulus)
    return found


def combined(sizes, pairs, ring):
    q = sizes.modulus
    first, second = [0] * sizes.ring, [0] * sizes.ring
    for j, (one, other) in enumerate(pairs):
        for half, cover in zip(ring, (one, other)):
            row = [digits(number, sizes)[j] for number in half]
            first = plus(first, product(row, cover[0], q), q)
            second = plus(second, product(row, cover[1], q), q)
    return first, second


def picked(sizes, pairs, ring, by):
    q = sizes.modulus
    change = [minus(turned(half, by, q), half, q) for half in ring]
    return tuple(plus(half, more, q) for half, more in zip(ring, combined(sizes, pairs, change)))


def start(sizes, number):
    q = sizes.modulus
    return [0] * sizes.ring, turned([q // 8] * sizes.ring, -number, q)


def rotated(sizes, selectors, cover):
    *mask, body = [rounded(number, sizes) for number in cover]
    ring = start(sizes, body)
    for pairs, number in zip(selectors, mask):
        ring = picked(sizes, pairs, ring, number)
    return ring


def extracted(sizes, ring):
    first, second = ring
    mask = [first[0]] + [-first[sizes.ring - j] % sizes.modulus for j in range(1, sizes.ring)]
    return mask, second[0]


def refreshed(sizes, public, cover):
    selectors, switch = public
    return led(sizes, switch, *extracted(sizes, rotated(sizes, selectors, cover)))


def phase(cover, bits, q):
    *mask, body = cover
    return centered(body - sum(a * s for a, s in zip(mask, bits)), q)


def ring_phase(ring, poly, q):
    first, second = ring
    return [centered(value, q) for value in minus(second, product(first, poly, q), q)]
