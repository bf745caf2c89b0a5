"""Promises 2, 6, 8, 24 and 34: words covered and opened, and programs run on covers."""

import random
import unittest

from helpers import GREAT, NO_NUMBERS, USUAL, each_other_sizes, random_program, some_cover, told
from veiledgates.covering import cover_words, opened_words, run_covered
from veiledgates.covers import Cover
from veiledgates.draws import Listed, Made
from veiledgates.keys import Key
from veiledgates.making import net_of
from veiledgates.programs import Program
from veiledgates.runner import Runner
from veiledgates.sizes import Sizes
from veiledgates.words import bits_of, words_of

KEY = Key.drawn(USUAL, draws=Made(1))
PROGRAM = Program("word 3\nin a\nin b\nout a + b\nout if(a < b, a, b)\n")
FAR = Sizes(2, 8, 65536, 2, 26)
NO_LISTS = [None, True, 0, "", "12", {}, {0: 1, 1: 2}, USUAL]


def some_draws():
    """Draws of both kinds; the listed ones hand out the greatest noises."""
    return [Made(17), Made(-GREAT), Listed([GREAT, 7 ** 30, 12345, -3 ** 40, 5], [1, -1, 0, 99]), Listed([0], [5])]


def marks(draws):
    """What draws hand out next."""
    twin = draws.twin()
    return [twin.residue(USUAL) for _ in range(7)] + [twin.noise(USUAL) for _ in range(7)]


def roomy_sizes():
    found = [USUAL, Sizes(2, 8, 16, 6, 1), Sizes(3, 16, 256, 4, 2), Sizes(1, 8, 16, 5, 1), Sizes(8, 32, 256, 5, 3)]
    assert all(sizes.roomy for sizes in found)
    return found


class Words(unittest.TestCase):
    def test_covers_are_fresh_ones_in_order(self):
        for width, words in ((3, [5, 0, 7]), (1, [1, 0, 0]), (8, (255, 1)), (4, [])):
            for draws in some_draws():
                other = draws.twin()
                found = cover_words(KEY, words, width=width, draws=draws)
                self.assertIsInstance(found, list)
                self.assertEqual(found, [KEY.fresh(bit, draws=other) for bit in bits_of(words, width=width)])
                self.assertEqual(marks(draws), marks(other))
                self.assertEqual(opened_words(KEY, found, width=width), list(words))
                self.assertEqual(opened_words(KEY, tuple(found), width=width), list(words))
        found = cover_words(key=KEY, words=[2], width=2, draws=Made(1))
        self.assertEqual(opened_words(key=KEY, covers=found, width=2), [2])

    def test_any_covers_are_opened(self):
        covers = [some_cover(USUAL, seed) for seed in range(12)]
        bits = [KEY.opened(cover) for cover in covers]
        for width in (1, 2, 3, 4, 6):
            self.assertEqual(opened_words(KEY, covers, width=width), words_of(bits, width=width))
        self.assertEqual(opened_words(KEY, [], width=8), [])

    def test_lists_stay(self):
        words = [1, 2]
        covers = cover_words(KEY, words, width=2, draws=Made(1))
        kept = list(covers)
        opened_words(KEY, covers, width=2).clear()
        self.assertEqual([words, covers], [[1, 2], kept])

    def test_wrong_widths_come_first(self):
        for wrong in [0, 9, -1, GREAT] + NO_NUMBERS:
            draws = Made(3)
            for call in (lambda: cover_words(KEY, None, width=wrong, draws=draws),
                         lambda: cover_words(KEY, [1], width=wrong, draws=draws),
                         lambda: opened_words(KEY, None, width=wrong), lambda: opened_words(KEY, [None], width=wrong)):
                found = told(call)
                self.assertEqual(found, ("InvalidNumber", {"value": wrong}))
                self.assertIs(found[1]["value"], wrong)
            self.assertEqual(draws.state, 3)

    def test_wrong_words_advance_no_draws(self):
        for draws in some_draws():
            before = marks(draws)
            for wrong in NO_LISTS:
                self.assertEqual(told(cover_words, KEY, wrong, width=3, draws=draws), ("BadWords", {"at": -1}))
            for wrong in [-1, 8, GREAT] + NO_NUMBERS:
                self.assertEqual(told(cover_words, KEY, [1, wrong, None], width=3, draws=draws), ("BadWords", {"at": 1}))
            self.assertEqual(marks(draws), before)

    def test_wrong_covers(self):
        cover = some_cover(USUAL, 1)
        for wrong in NO_LISTS + [cover, [cover] * 2, (cover,) * 4, [None]]:
            self.assertEqual(told(opened_words, KEY, wrong, width=3), ("BadCover", {"at": -1}))
        for wrong in NO_NUMBERS + [0, 1, KEY, [cover], "1 2 3"]:
            self.assertEqual(told(opened_words, KEY, [cover, wrong, wrong], width=3), ("BadCover", {"at": 1}))
        for one, two in each_other_sizes():
            key = Key.drawn(one, draws=Made(1))
            self.assertEqual(told(opened_words, key, [some_cover(one, 1), some_cover(two, 1)], width=2),
                             ("BadCover", {"at": 1}))


class Running(unittest.TestCase):
    def by_hand(self, program, key, words, draws, short):
        """The program run on covers, step by step."""
        public = key.public_tables(draws=draws)
        covers = [key.fresh(bit, draws=draws) for bit in bits_of(words, width=program.width)]
        net = net_of(program, short=short)
        runner = Runner(net, public, covers)
        runner.run()
        for wire in range(net.wires):
            value = net.plain_wires(bits_of(words, width=program.width))[wire]
            self.assertLessEqual(key.noise_at(runner.cover(wire), 1 if value else 7), key.sizes.limit)
        return words_of([key.opened(cover) for cover in runner.outputs()], width=program.width)

    def test_at_once_and_by_hand(self):
        for words in ([3, 6], (7, 7)):
            for draws in some_draws():
                for short in (True, False):
                    one, other = draws.twin(), draws.twin()
                    found = run_covered(PROGRAM, KEY, words, draws=one, short=short)
                    self.assertIsInstance(found, list)
                    self.assertEqual(found, self.by_hand(PROGRAM, KEY, words, other, short))
                    self.assertEqual(found, PROGRAM.meaning(words))
                    self.assertEqual(marks(one), marks(other))
        found = run_covered(program=PROGRAM, key=KEY, words=[1, 2], draws=Made(1))
        self.assertEqual(found, [3, 1])

    def test_the_draws_number_for_number(self):
        """The tables take their residues and noises first, and then each input bit takes a mask and a noise."""
        sizes = USUAL
        selectors = sizes.length * sizes.places * 2 * sizes.ring
        switch = sizes.ring * sizes.places
        residues = selectors + switch * sizes.length + 6 * sizes.length
        noises = selectors + switch + 6
        one, other = Made(5), Made(5)
        run_covered(PROGRAM, KEY, [1, 2], draws=one)
        # A residue takes three advances, and a noise one.
        for _ in range(3 * residues + noises):
            other.noise(sizes)
        self.assertEqual(one.state, other.state)

    def test_random_programs_with_many_keys_and_sizes(self):
        chance = random.Random(1)
        for seed in range(30):
            text = random_program(7000 + seed, width=1 + seed % 3, many=4)
            if told(Program, text) is not None:
                continue
            program = Program(text)
            if net_of(program, short=False).size > 150:
                continue
            sizes = roomy_sizes()[seed % 4]
            draws = Made(seed)
            key = Key.drawn(sizes, draws=draws)
            words = [chance.randrange(2 ** program.width) for _ in range(2)]
            self.assertEqual(run_covered(program, key, words, draws=draws, short=seed % 2 == 0), program.meaning(words))

    def test_other_roomy_sizes_with_the_greatest_noises(self):
        program = Program("word 2\nin a\nin b\nout a - b\nout a < b\n")
        for sizes in roomy_sizes():
            for noises in ([sizes.spread], [-sizes.spread], [sizes.spread, -sizes.spread]):
                draws = Listed([7 ** 25, 11 ** 30, 13 ** 28, 3, 2 ** 40 + 1], noises)
                key = Key(sizes, [at % 2 for at in range(sizes.length)], [(at * at) % 3 % 2 for at in range(sizes.ring)])
                self.assertEqual(run_covered(program, key, [1, 3], draws=draws), [2, 1])

    def test_without_inputs_and_outputs(self):
        self.assertEqual(run_covered(Program("word 2\nout 3\n"), KEY, [], draws=Made(1)), [3])
        self.assertEqual(run_covered(Program("word 2\nin a\n"), KEY, [1], draws=Made(1)), [])

    def test_what_is_refused_advances_no_draws(self):
        key = Key.drawn(FAR, draws=Made(1))
        for short in (True, False):
            net = net_of(PROGRAM, short=short)
            runner = told(Runner, net, key.public_tables(draws=Made(1)), [some_cover(FAR, 1)] * 6)
            self.assertEqual(runner[0], "NotAllowed")
            for draws in some_draws():
                before = marks(draws)
                self.assertEqual(told(run_covered, PROGRAM, key, [1, 2], draws=draws, short=short), runner)
                # Wrong words come first.
                for wrong in NO_LISTS + [[1], [1, 2, 3]]:
                    self.assertEqual(told(run_covered, PROGRAM, key, wrong, draws=draws, short=short), ("BadWords", {"at": -1}))
                for wrong in [8, -1, GREAT] + NO_NUMBERS:
                    self.assertEqual(told(run_covered, PROGRAM, key, [1, wrong], draws=draws), ("BadWords", {"at": 1}))
                self.assertEqual(marks(draws), before)

    def test_sizes_that_are_not_roomy_but_allow_the_net(self):
        # XOR alone is allowed by these sizes.
        self.assertFalse(FAR.roomy)
        program = Program("word 2\nin a\nin b\nout a ^ b\nout ~a\n")
        key = Key.drawn(FAR, draws=Made(1))
        self.assertEqual(run_covered(program, key, [1, 3], draws=Made(2)), [2, 2])
        self.assertEqual(Cover.constant(FAR, 1).sizes, FAR)


if __name__ == "__main__":
    unittest.main()
