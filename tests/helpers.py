"""What several test files share: odd values, sizes, and how errors are told."""

from veiledgates.covers import Cover
from veiledgates.polys import Poly
from veiledgates.sizes import Sizes

TINY = Sizes(1, 4, 16, 2, 0)
USUAL = Sizes(2, 8, 65536, 2, 1)
GREATEST = Sizes(8, 32, 65536, 8, 1000)
MANY_PLACES = Sizes(3, 16, 4, 8, 1)

GREAT = 10 ** 59 + 7

# Values that are no numbers, whatever the bounds.
NO_NUMBERS = [
    None, True, False, "", "1", "a", (), [], {}, (1,), [1], {1: 1}, {"a": None},
    [[[[[1]]]]], ((True,),), TINY, USUAL,
]


def told(call, *args, **named):
    """The name of the error that a call raises, with its attributes, or None."""
    try:
        call(*args, **named)
    except Exception as error:
        kept = {name: value for name, value in vars(error).items() if name != "code"}
        return (error.__class__.__name__, kept)
    return None


def each_other_sizes():
    """Pairs of sizes that differ in one number alone, one pair for each of the five."""
    first = (2, 8, 256, 3, 1)
    return [
        (Sizes(*first), Sizes(*(first[:at] + (other,) + first[at + 1:])))
        for at, other in enumerate((3, 16, 128, 4, 2))
    ]


def samples(sizes):
    """Some polynomials with sizes: the ends, and two that look drawn."""
    top = sizes.modulus - 1
    rows = [
        [0] * sizes.ring,
        [top] * sizes.ring,
        [top // 2 + 1] * sizes.ring,
        [1] + [0] * (sizes.ring - 1),
        [top if k % 2 else top // 2 for k in range(sizes.ring)],
        [(k + 3) ** 40 for k in range(sizes.ring)],
        [(7 * k + 2) ** 37 for k in range(sizes.ring)],
    ]
    return [Poly(sizes, row) for row in rows]


def slow_product(one, other):
    """The product of two polynomials, term by term, with X to the power N as -1."""
    ring = one.sizes.ring
    sums = [0] * ring
    for i, left in enumerate(one.numbers()):
        for j, right in enumerate(other.numbers()):
            sign = -1 if (i + j) // ring % 2 else 1
            sums[(i + j) % ring] += sign * left * right
    return [value % one.sizes.modulus for value in sums]


def sum_of(one, other):
    return one + other


def difference_of(one, other):
    return one - other


def product_of(one, other):
    return one * other


def row_of(cover):
    """The numbers of the mask of a cover, and its body behind them."""
    return cover.mask() + [cover.body]


def rows_of(ring):
    """The numbers of both polynomials of a ring cover."""
    return ring.first.numbers(), ring.second.numbers()


def some_cover(sizes, seed):
    """Some cover with sizes, which looks drawn."""
    numbers = [(seed * 7919 + k * 104729 + 1) ** 9 for k in range(sizes.length + 1)]
    return Cover(sizes, numbers[:-1], numbers[-1])


def joined_lines(lines):
    return "".join(line + "\n" for line in lines)


def bent_lines(line):
    """Lines that stand in no text in the place of a line with a fixed number of words, of which the last is a number
    that is not negative."""
    *head, last = line.split(" ")
    ends = ["0" + last, "+" + last, "-" + last, last + ".", last + "_0", "a", "", "9" * 59, "9" * 70, "1" * 5000,
            "-0", "\u0661", "\u00b2", "None"]
    return [" ".join(head + [end]) for end in ends] + [
        "", " ", line + " ", " " + line, line + " 0", line + "\r", line + "\t", line.replace(" ", "  ", 1),
        line.replace(" ", "\t", 1), line.replace(" ", ",", 1), " ".join(head), line + "\n", line + "\x0b",
    ]


def bent_texts(text):
    """Pairs of a text that cannot be read and the line that is told, made of a text all of whose lines have a fixed
    number of words."""
    lines = text.split("\n")[:-1]
    found = []
    for at, line in enumerate(lines):
        for bent in bent_lines(line):
            if bent == line:
                continue
            # A line feed behind the whole line leaves an empty line behind it.
            told_at = at + 1 if bent == line + "\n" else at
            found.append((joined_lines(lines[:at] + [bent] + lines[at + 1:]), told_at))
        found.append((joined_lines(lines[:at]), at))
        found.append((joined_lines(lines[:at]) + line, at))
    for behind in ("\n", " ", "x", "0", lines[-1], lines[-1] + "\n", lines[0] + "\n", "\n\n"):
        found.append((text + behind, len(lines)))
    return found


NO_STRINGS = [value for value in NO_NUMBERS if not isinstance(value, str)] + [0, 1, GREAT, ["a"], ("a",)]
