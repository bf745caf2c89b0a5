"""What several test files share: odd values, sizes, and how errors are told."""

import itertools
import random

from veiledgates.covers import Cover
from veiledgates.draws import Made
from veiledgates.keys import Key
from veiledgates.nets import Net
from veiledgates.polys import Poly
from veiledgates.sizes import Sizes
from veiledgates.weighings import weighing_of

TINY = Sizes(1, 4, 16, 2, 0)
USUAL = Sizes(2, 8, 65536, 2, 1)
GREATEST = Sizes(8, 32, 65536, 8, 1000)
MANY_PLACES = Sizes(3, 16, 4, 8, 1)

GREAT = 10 ** 59 + 7

# Values that are no numbers, whatever the bounds.
NO_NUMBERS = [
    None, True, False, "", "1", "a", (), [], {}, (1,), [1], {1: 1}, {"a": None},
    [[[[[1]]]]], ((True,),), TINY, USUAL,
]


def told(call, *args, **named):
    """The name of the error that a call raises, with its attributes, or None."""
    try:
        call(*args, **named)
    except Exception as error:
        kept = {name: value for name, value in vars(error).items() if name != "code"}
        return (error.__class__.__name__, kept)
    return None


def each_other_sizes():
    """Pairs of sizes that differ in one number alone, one pair for each of the five."""
    first = (2, 8, 256, 3, 1)
    return [
        (Sizes(*first), Sizes(*(first[:at] + (other,) + first[at + 1:])))
        for at, other in enumerate((3, 16, 128, 4, 2))
    ]


def samples(sizes):
    """Some polynomials with sizes: the ends, and two that look drawn."""
    top = sizes.modulus - 1
    rows = [
        [0] * sizes.ring,
        [top] * sizes.ring,
        [top // 2 + 1] * sizes.ring,
        [1] + [0] * (sizes.ring - 1),
        [top if k % 2 else top // 2 for k in range(sizes.ring)],
        [(k + 3) ** 40 for k in range(sizes.ring)],
        [(7 * k + 2) ** 37 for k in range(sizes.ring)],
    ]
    return [Poly(sizes, row) for row in rows]


def slow_product(one, other):
    """The product of two polynomials, term by term, with X to the power N as -1."""
    ring = one.sizes.ring
    sums = [0] * ring
    for i, left in enumerate(one.numbers()):
        for j, right in enumerate(other.numbers()):
            sign = -1 if (i + j) // ring % 2 else 1
            sums[(i + j) % ring] += sign * left * right
    return [value % one.sizes.modulus for value in sums]


def sum_of(one, other):
    return one + other


def difference_of(one, other):
    return one - other


def product_of(one, other):
    return one * other


def row_of(cover):
    """The numbers of the mask of a cover, and its body behind them."""
    return cover.mask() + [cover.body]


def rows_of(ring):
    """The numbers of both polynomials of a ring cover."""
    return ring.first.numbers(), ring.second.numbers()


def some_cover(sizes, seed):
    """Some cover with sizes, which looks drawn."""
    numbers = [(seed * 7919 + k * 104729 + 1) ** 9 for k in range(sizes.length + 1)]
    return Cover(sizes, numbers[:-1], numbers[-1])


def joined_lines(lines):
    return "".join(line + "\n" for line in lines)


def bent_lines(line):
    """Lines that stand in no text in the place of a line with a fixed number of words, of which the last is a number
    that is not negative."""
    *head, last = line.split(" ")
    ends = ["0" + last, "+" + last, "-" + last, last + ".", last + "_0", "a", "", "9" * 59, "9" * 70, "1" * 5000,
            "-0", "\u0661", "\u00b2", "None"]
    return [" ".join(head + [end]) for end in ends] + [
        "", " ", line + " ", " " + line, line + " 0", line + "\r", line + "\t", line.replace(" ", "  ", 1),
        line.replace(" ", "\t", 1), line.replace(" ", ",", 1), " ".join(head), line + "\n", line + "\x0b",
    ]


def bent_texts(text):
    """Pairs of a text that cannot be read and the line that is told, made of a text all of whose lines have a fixed
    number of words."""
    lines = text.split("\n")[:-1]
    found = []
    for at, line in enumerate(lines):
        for bent in bent_lines(line):
            if bent == line:
                continue
            # A line feed behind the whole line leaves an empty line behind it.
            told_at = at + 1 if bent == line + "\n" else at
            found.append((joined_lines(lines[:at] + [bent] + lines[at + 1:]), told_at))
        found.append((joined_lines(lines[:at]), at))
        found.append((joined_lines(lines[:at]) + line, at))
    for behind in ("\n", " ", "x", "0", lines[-1], lines[-1] + "\n", lines[0] + "\n", "\n\n"):
        found.append((text + behind, len(lines)))
    return found


NO_STRINGS = [value for value in NO_NUMBERS if not isinstance(value, str)] + [0, 1, GREAT, ["a"], ("a",)]


def total_weighings(most, many):
    """All total weighings with up to so many weights, none greater than most."""
    weights = [w for w in range(-most, most + 1) if w]
    found = []
    for width in range(1, many + 1):
        for row in itertools.product(weights, repeat=width):
            if sum(map(abs, row)) <= 12:
                found.extend(weighing_of(row, shift=shift) for shift in range(-8, 9))
    return [weighing for weighing in found if weighing.is_total()]


WEIGHINGS = total_weighings(3, 3) + [weighing_of([1, -1, 1, -1], shift=1), weighing_of([2, 2, -2, 2], shift=2),
                                     weighing_of([3, 3, 3, 3], shift=-1), weighing_of([12], shift=1)]
MODEST = [weighing for weighing in WEIGHINGS if weighing.is_modest()]


def random_net(seed, *, inputs, size, outputs, choices=None):
    """A net that hangs on a seed; about a third of its sources are constants or stand twice."""
    chance = random.Random(seed)
    steps = []
    for at in range(size):
        weighing = chance.choice(choices or WEIGHINGS)
        wires = 2 + inputs + at
        sources = [chance.randrange(wires) for _ in weighing.weights()]
        if chance.random() < 0.2:
            sources = [chance.choice(sources) for _ in sources]
        if chance.random() < 0.2:
            sources[0] = chance.randrange(2)
        steps.append((weighing, tuple(sources)))
    return Net(inputs, steps, [chance.randrange(2 + inputs + size) for _ in range(outputs)])


def plain_values(net, bits):
    """The plain values of all wires, by the words of the document."""
    values = [0, 1] + list(bits)
    for weighing, sources in net.steps():
        level = weighing.shift
        for weight, source in zip(weighing.weights(), sources):
            level += weight if values[source] else -weight
        values.append({1: 1, 2: 1, 3: 1, 5: 0, 6: 0, 7: 0}[level % 8])
    return values


def drawn(sizes, seed):
    """A drawn key and its public tables."""
    draws = Made(seed)
    key = Key.drawn(sizes, draws=draws)
    return key, key.public_tables(draws=draws)


def random_expression(chance, depth):
    """The tokens of an expression over the words a and b and the rows r and s."""
    way = chance.random()
    if depth <= 0 or way < 0.3:
        return [chance.choice(["a", "b", "a", "b", "0", "1"])]
    if way < 0.55:
        sign = chance.choice(["=", "<", "|", "^", "&", "+", "-", "+", "-"])
        return random_expression(chance, depth - 1) + [sign] + random_expression(chance, depth - 1)
    if way < 0.65:
        return random_expression(chance, depth - 1) + [chance.choice(["<<", ">>"]), str(chance.randrange(10))]
    if way < 0.75:
        return [chance.choice("~-")] + random_expression(chance, depth - 1)
    if way < 0.83:
        return ["("] + random_expression(chance, depth - 1) + [")"]
    if way < 0.92:
        return [chance.choice("rs"), "["] + random_expression(chance, depth - 1) + ["]"]
    parts = [random_expression(chance, depth - 1) for _ in range(3)]
    return ["if", "("] + parts[0] + [","] + parts[1] + [","] + parts[2] + [")"]


def random_lines(chance, many):
    """Some lines let, set, out, times and end, all as lists of tokens."""
    found, depth = [], 0
    for _ in range(many):
        way = chance.random()
        if way < 0.4:
            found.append(["let", chance.choice("ab"), "be"] + random_expression(chance, 2))
        elif way < 0.6:
            index = random_expression(chance, 1)
            found.append(["set", chance.choice("rs"), "["] + index + ["]", "be"] + random_expression(chance, 2))
        elif way < 0.8:
            found.append(["out"] + random_expression(chance, 2))
        elif way < 0.9 and depth < 2:
            found.append(["times", str(chance.randrange(1, 4))])
            depth += 1
        elif depth:
            found.append(["end"])
            depth -= 1
    return found + [["end"]] * depth


def random_program(seed, *, width, many=6):
    """The text of a program over two input words and two rows."""
    chance = random.Random(seed)
    head = [["word", str(width)], ["in", "a"], ["row", "r", str(chance.randrange(1, 9))], ["in", "b"],
            ["row", "s", str(chance.randrange(1, 9))]]
    return joined_lines(" ".join(row) for row in head + random_lines(chance, many) if len(row) <= 30)
