"""What several test files share: odd values, sizes, and how errors are told."""

from veiledgates.polys import Poly
from veiledgates.sizes import Sizes

TINY = Sizes(1, 4, 16, 2, 0)
USUAL = Sizes(2, 8, 65536, 2, 1)
GREATEST = Sizes(8, 32, 65536, 8, 1000)
MANY_PLACES = Sizes(3, 16, 4, 8, 1)

GREAT = 10 ** 59 + 7

# Values that are no numbers, whatever the bounds.
NO_NUMBERS = [
    None, True, False, "", "1", "a", (), [], {}, (1,), [1], {1: 1}, {"a": None},
    [[[[[1]]]]], ((True,),), TINY, USUAL,
]


def told(call, *args, **named):
    """The name of the error that a call raises, with its attributes, or None."""
    try:
        call(*args, **named)
    except Exception as error:
        kept = {name: value for name, value in vars(error).items() if name != "code"}
        return (error.__class__.__name__, kept)
    return None


def each_other_sizes():
    """Pairs of sizes that differ in one number alone, one pair for each of the five."""
    first = (2, 8, 256, 3, 1)
    return [
        (Sizes(*first), Sizes(*(first[:at] + (other,) + first[at + 1:])))
        for at, other in enumerate((3, 16, 128, 4, 2))
    ]


def samples(sizes):
    """Some polynomials with sizes: the ends, and two that look drawn."""
    top = sizes.modulus - 1
    rows = [
        [0] * sizes.ring,
        [top] * sizes.ring,
        [top // 2 + 1] * sizes.ring,
        [1] + [0] * (sizes.ring - 1),
        [top if k % 2 else top // 2 for k in range(sizes.ring)],
        [(k + 3) ** 40 for k in range(sizes.ring)],
        [(7 * k + 2) ** 37 for k in range(sizes.ring)],
    ]
    return [Poly(sizes, row) for row in rows]


def slow_product(one, other):
    """The product of two polynomials, term by term, with X to the power N as -1."""
    ring = one.sizes.ring
    sums = [0] * ring
    for i, left in enumerate(one.numbers()):
        for j, right in enumerate(other.numbers()):
            sign = -1 if (i + j) // ring % 2 else 1
            sums[(i + j) % ring] += sign * left * right
    return [value % one.sizes.modulus for value in sums]


def sum_of(one, other):
    return one + other


def difference_of(one, other):
    return one - other


def product_of(one, other):
    return one * other
