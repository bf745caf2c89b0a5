"""Promises 23, 31, 32 and 34 for made nets, and the gates and blocks behind them."""

import itertools
import random
import unittest

from helpers import USUAL, random_program, told
from plainly import Plain
from veiledgates.blocks import Blocks
from veiledgates.gates import Gates
from veiledgates.making import net_of
from veiledgates.nets import Net
from veiledgates.programs import Program
from veiledgates.shortening import shortened
from veiledgates.words import bits_of, words_of

# No line `work` can do more weighings.
MOST_WORK = 999999999


def some_programs(width, many=40):
    """Random programs that may stand."""
    found = []
    for seed in range(many):
        text = random_program(1000 * width + seed, width=width, many=7)
        if told(Program, text) is None:
            found.append(Program(text))
    return found


def all_words(width, many):
    return itertools.product(range(2 ** width), repeat=many)


class Nets(unittest.TestCase):
    def holds(self, program, rows):
        """The made net and the short one have the meaning of a program, and are what is promised."""
        width, slow = program.width, Plain(program.text())
        nets = [net_of(program, short=False), net_of(program, short=True)]
        for net in nets:
            self.assertEqual([net.inputs, len(net.outputs())], [width * program.many_inputs, width * program.many_outputs])
            self.assertTrue(net.is_modest())
            self.assertTrue(net.allowed(USUAL))
            self.assertLessEqual(net.size, MOST_WORK)
            for words in rows:
                found = net.plain(bits_of(words, width=width))
                self.assertEqual(words_of(found, width=width), slow.meaning(words), (program.text(), words))
        made, short = nets
        self.assertLessEqual(short.size, made.size)
        self.assertEqual(short, shortened(made))
        # A short net has no constants as sources, no equal weighings, and none that is not needed.
        self.assertEqual(short.needed(), list(range(2 + short.inputs, short.wires)))
        self.assertEqual(sources_below_two(short), [])
        self.assertFalse([step for step in short.steps() if len(set(step[0].table())) == 1])
        unlike = {(tuple(step[0].weights()), step[0].shift, step[1]) for step in short.steps()}
        self.assertEqual(len(unlike), short.size)

    def test_random_programs_of_small_widths(self):
        for width in (1, 2, 3):
            for program in some_programs(width):
                self.holds(program, list(all_words(width, program.many_inputs)))

    def test_random_programs_of_great_widths(self):
        chance = random.Random(7)
        for width in (4, 5, 6, 7, 8):
            for program in some_programs(width, 12):
                rows = [[chance.randrange(2 ** width) if chance.random() < 0.6 else chance.randrange(min(9, 2 ** width))
                         for _ in range(2)] for _ in range(25)]
                self.holds(program, rows + [[0, 0], [2 ** width - 1] * 2])

    def test_each_operator(self):
        for width in (1, 2, 3):
            for sign in ("+", "-", "&", "|", "^", "=", "<"):
                for text in (f"a {sign} b", f"b {sign} a", f"a {sign} a", f"a {sign} 1", f"1 {sign} b", f"0 {sign} a",
                             f"a {sign} 0", f"(a {sign} b) {sign} a", f"~a {sign} b", f"a {sign} -b", f"a {sign} ~a"):
                    self.holds(Program(f"word {width}\nin a\nin b\nout {text}\n"), list(all_words(width, 2)))
            for by in range(5):
                self.holds(Program(f"word {width}\nin a\nout a << {by}\nout a >> {by}\nout -a << {by}\n"),
                           list(all_words(width, 1)))

    def test_each_operator_at_the_greatest_width(self):
        chance = random.Random(11)
        lines = "".join(f"out a {sign} b\n" for sign in ("+", "-", "&", "|", "^", "=", "<", "<< 3 |", ">> 7 ^"))
        program = Program("word 8\nin a\nin b\n" + lines + "out -a\nout ~a\nout if(a, b, ~b)\n")
        ends = [0, 1, 2, 127, 128, 254, 255]
        self.holds(program, [[chance.randrange(256), chance.randrange(256)] for _ in range(400)] +
                   list(itertools.product(ends, repeat=2)))

    def test_choices(self):
        for text in ("if(a, b, c)", "if(a, b, b)", "if(a, a, b)", "if(a, b, a)", "if(a = b, 1, 0)", "if(a < b, 0, c)",
                     "if(a, ~b, b)", "if(a & 1, ~a, b)", "if(0, a, b)", "if(1, a, b)", "if(a < 2, c, 3)", "if(a, if(b, c, 1), 2)"):
            self.holds(Program(f"word 2\nin a\nin b\nin c\nout {text}\n"), list(all_words(2, 3)))

    def test_rows_of_all_lengths(self):
        chance = random.Random(2)
        for width in (1, 2, 3, 4, 8):
            for many in range(1, 9):
                program = Program(f"word {width}\nin i\nin j\nin v\nrow r {many}\nset r[i] be v\nset r[j] be v + i\n"
                                  f"set r[1] be r[i] + 1\nout r[j]\nout r[i + 1]\nout r[0]\n")
                rows = list(all_words(width, 3)) if width < 3 else [
                    [min(chance.randrange(10), 2 ** width - 1), min(chance.randrange(10), 2 ** width - 1),
                     chance.randrange(2 ** width)] for _ in range(60)]
                self.holds(program, rows + ([[2 ** width - 1] * 3, [2 ** width - 1, 8, 1]] if width > 3 else []))

    def test_without_inputs_or_outputs(self):
        program = Program("word 3\nrow r 2\nset r[1] be 5\nout r[1] + 1\nout r[0]\nout ~0\n")
        self.assertEqual(net_of(program).plain([]), [0, 1, 1, 0, 0, 0, 1, 1, 1])
        self.holds(program, [[]])
        self.holds(Program("word 3\nin a\n"), [[0], [5]])
        self.holds(Program("word 3\n"), [[]])

    def test_inputs_as_outputs(self):
        program = Program("word 2\nin a\nin b\nout b\nout a\nout ~a\nout 2\nout b\n")
        self.holds(program, list(all_words(2, 2)))
        self.assertEqual(net_of(program).outputs()[:4], [4, 5, 2, 3])

    def test_the_most_inputs_and_outputs(self):
        program = Program("word 8\n" + "".join(f"in {name}\n" for name in "abcdefgh") + "times 3\ntimes 16\nlet a be a + h\n"
                          "out a ^ b\nend\nend\n")
        net = net_of(program)
        self.assertEqual([net.inputs, len(net.outputs())], [64, 384])
        chance = random.Random(4)
        self.holds(program, [[chance.randrange(256) for _ in range(8)] for _ in range(3)])

    def test_nets_hang_on_the_text_alone(self):
        text = "word 3\nin a\nrow r 2\nset r[1] be a+a\nlet a be if(a<r[1],a+1,r[0])\nout a\n"
        one, other = Program(text), Program(text.replace(" ", "   ").replace("+", " + "))
        for short in (True, False):
            self.assertEqual(net_of(one, short=short), net_of(program=other, short=short))
        self.assertEqual(net_of(one), net_of(one, short=True))

    def test_great_nets(self):
        """A program with great work over rows that are read within rows."""
        program = Program("word 8\nin a\nin b\nin c\nrow r 8\nrow s 8\ntimes 10\nset r[a+b] be c^a\nset s[r[a]] be r[r[s[b]]]+a\n"
                          "let a be if(a < b, r[s[r[s[a]]]], s[c])\nlet b be b + r[r[r[a]]]\nlet c be a - s[b] + r[c]\nout a\n"
                          "out c\nend\n")
        chance = random.Random(6)
        self.holds(program, [[chance.randrange(256 if at % 2 else 8) for _ in range(3)] for at in range(4)])


def fewest(table):
    """How few weighings give a table of three inputs: none for a constant or an input, two for a choice of one of two
    inputs by the third one, and otherwise one."""
    inputs = [[at >> place & 1 for at in range(8)] for place in (2, 1, 0)]
    if len(set(table)) == 1 or table in inputs:
        return 0
    depends = [place for place in range(3) if any(table[at] != table[at ^ (4 >> place)] for at in range(8))]
    # What at least two of three bits, or an odd number of them, tell is the other answer for the other bits.
    turned_alike = all(table[at] != table[7 - at] for at in range(8))
    return 2 if len(depends) == 3 and not turned_alike else 1


def sources_below_two(net):
    return [source for _, sources in net.steps() for source in sources if source < 2]


class Making(unittest.TestCase):
    def net_of_bit(self, many, made):
        gates = Gates(many)
        return gates.net_with([made(gates, gates.input_bits())])

    def test_gates_with_all_bits(self):
        """All gates over inputs, their other bits and constants, in all places."""
        choices = [0, 1, 4, 5, 6, 7, 8, 9]

        def value(bit, row):
            return bit if bit < 2 else row[bit // 2 - 2] ^ (bit & 1)
        ways = {
            2: {"both": lambda a, b: a & b, "either": lambda a, b: a | b},
            3: {"most": lambda a, b, c: int(a + b + c >= 2), "chosen": lambda a, b, c: b if a else c},
        }
        rows = list(itertools.product((0, 1), repeat=3))
        for many, calls in ways.items():
            for bits in itertools.product(choices, repeat=many):
                for name, plain in calls.items():
                    net = self.net_of_bit(3, lambda gates, _: getattr(gates, name)(*bits))
                    table = [plain(*[value(bit, row) for bit in bits]) for row in rows]
                    self.assertEqual([net.plain(row)[0] for row in rows], table, (name, bits))
                    self.assertTrue(net.is_modest())
                    self.assertEqual([net.size, sources_below_two(net)], [fewest(table), []], (name, bits))
        for many in range(4):
            for bits in itertools.product(choices, repeat=many):
                net = self.net_of_bit(3, lambda gates, _: gates.odd(list(bits)))
                table = [sum(value(bit, row) for bit in bits) % 2 for row in rows]
                self.assertEqual([net.plain(row)[0] for row in rows], table, bits)
                self.assertEqual([net.size, sources_below_two(net)], [fewest(table), []], bits)

    def test_gates_are_made_once(self):
        gates = Gates(3)
        a, b, c = gates.input_bits()
        self.assertEqual([gates.both(a, b), gates.either(a, b ^ 1), gates.most(a, b, c), gates.odd([a, b, c])],
                         [gates.both(b, a), gates.either(b ^ 1, a), gates.most(c, a, b), gates.odd([c ^ 1, a, b ^ 1])])
        self.assertEqual(gates.most(a, b, c), gates.most(a ^ 1, b ^ 1, c ^ 1) ^ 1)
        net = gates.net_with([gates.both(a, b), gates.both(a, b) ^ 1, a ^ 1, a ^ 1, 0, 1, gates.both(a, b)])
        self.assertEqual(net.size, 3)
        self.assertEqual([net.plain([1, 1, 0]), net.plain([0, 1, 0])], [[1, 0, 0, 0, 0, 1, 1], [0, 1, 1, 1, 0, 1, 0]])

    def test_what_is_not_needed_is_left_out(self):
        gates = Gates(2)
        a, b = gates.input_bits()
        gates.both(a, b)
        self.assertEqual(gates.net_with([gates.odd([a, b]) ^ 1]).size, 1)
        self.assertEqual(Gates(0).net_with([0, 1]), Net(0, [], [0, 1]))

    def test_sizes_of_blocks(self):
        """A sum takes two weighings for each bit but the ends, and a choice two for each bit."""
        for width in range(1, 9):
            gates = Gates(3 * width)
            bits = gates.input_bits()
            words = [bits[at:at + width] for at in range(0, 3 * width, width)]
            blocks = Blocks(gates, width)
            summed = gates.net_with(blocks.two_words("+", words[0], words[1]))
            self.assertEqual(summed.size, 2 * width - 1)
            chosen = gates.net_with(blocks.chosen_word(words[2][0], words[0], words[1]))
            self.assertEqual(chosen.size, 2 * width)


if __name__ == "__main__":
    unittest.main()
