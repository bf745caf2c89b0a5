"""Promises 22, 26, 35 and 36: the plain machine, its step nets, and covered machines, with promise 2 for them."""

import itertools
import random
import unittest

from helpers import (GREAT, NO_NUMBERS, NO_STRINGS, TINY, USUAL, bent_texts, drawn, each_other_sizes, joined_lines,
                     some_cover, told)
from veiledgates.draws import Listed, Made
from veiledgates.keys import Key
from veiledgates.machine import Machine, plain_step, state_bits, state_of, step_net
from veiledgates.runner import Runner
from veiledgates.sizes import Sizes

KEY, PUBLIC = drawn(USUAL, 1)
FAR = Sizes(2, 8, 65536, 2, 26)
NO_LISTS = [None, True, 0, 5, "", "01", {}, {0: 1, 1: 2}, USUAL]
MANY = {3: 10, 4: 22}
NO_WIDTHS = [0, 1, 2, 5, 8, -3, GREAT] + NO_NUMBERS


def slow_step(width, counter, hand, cells):
    """A step, by the words of the document."""
    many = 2 ** (width - 2)
    x = cells[counter]
    a, deed, cells = x % many, x >> (width - 2), list(cells)
    ahead = (counter + 1) % many
    if deed == 0:
        hand = cells[a]
    elif deed == 1:
        hand = (hand + cells[a]) % 2 ** width
    elif deed == 2:
        cells[a] = hand
    elif hand == 0:
        ahead = a
    return ahead, hand, cells


def slow_bits(width, counter, hand, cells):
    found = [counter >> at & 1 for at in range(width - 2)]
    return found + [word >> at & 1 for word in [hand] + list(cells) for at in range(width)]


def some_states(width, many=300):
    chance = random.Random(width)
    cells = 2 ** (width - 2)
    return [(chance.randrange(cells), chance.choice([0, 0, chance.randrange(2 ** width)]),
             [chance.randrange(2 ** width) for _ in range(cells)]) for _ in range(many)]


def fresh_covers(width, state, key=KEY, seed=2):
    draws = Made(seed)
    return [key.fresh(bit, draws=draws) for bit in slow_bits(width, *state)]


def a_machine(width=3, state=(0, 2, [1, 5])):
    return Machine(PUBLIC, fresh_covers(width, state), width=width)


def opened(machine, key=KEY):
    return state_of(machine.width, [key.opened(cover) for cover in machine.covers()])


def told_state(machine):
    """All that a machine tells of itself."""
    return [machine.sizes, machine.width, machine.stepped, machine.covers(), machine.text(), machine.touches()]


class Plainly(unittest.TestCase):
    def test_each_deed_by_hand(self):
        # Width 3: the deed is x >> 1, and the address x & 1.
        for state, wanted in (((0, 2, [1, 5]), (1, 5, [1, 5])), ((0, 2, [0, 5]), (1, 0, [0, 5])),
                              ((1, 3, [4, 0]), (0, 4, [4, 0])), ((0, 6, [3, 5]), (1, 3, [3, 5])),
                              ((0, 6, [2, 5]), (1, 0, [2, 5])), ((1, 7, [6, 3]), (0, 2, [6, 3])),
                              ((0, 7, [4, 1]), (1, 7, [7, 1])), ((1, 2, [3, 5]), (0, 2, [3, 2])),
                              ((0, 0, [6, 1]), (0, 0, [6, 1])), ((0, 0, [7, 1]), (1, 0, [7, 1])),
                              ((1, 0, [2, 6]), (0, 0, [2, 6])), ((1, 0, [2, 7]), (1, 0, [2, 7])),
                              ((0, 1, [6, 1]), (1, 1, [6, 1])), ((1, 4, [2, 7]), (0, 4, [2, 7]))):
            self.assertEqual(plain_step(3, *state), wanted)
        # Width 4: the deed is x >> 2, and the address x & 3.
        for state, wanted in (((3, 9, [11, 0, 0, 0]), (0, 11, [11, 0, 0, 0])), ((2, 9, [1, 12, 5, 7]), (3, 5, [1, 12, 5, 7])),
                              ((1, 15, [0, 11, 6, 8]), (2, 15, [0, 11, 6, 15])), ((0, 0, [14, 0, 0, 1]), (2, 0, [14, 0, 0, 1])),
                              ((0, 8, [14, 0, 0, 1]), (1, 8, [14, 0, 0, 1])), ((3, 1, [0, 0, 0, 15]), (0, 1, [0, 0, 0, 15]))):
            self.assertEqual(plain_step(4, *state), wanted)

    def test_all_small_states(self):
        for counter, hand, one, other in itertools.product(range(2), range(8), range(8), range(8)):
            cells = [one, other]
            found = plain_step(3, counter, hand, cells)
            self.assertIsInstance(found, tuple)
            self.assertEqual(found, slow_step(3, counter, hand, cells))
            self.assertIsNot(found[2], cells)
            self.assertEqual(cells, [one, other])
        for state in some_states(4):
            self.assertEqual(plain_step(4, *state), slow_step(4, *state))

    def test_tuples_and_names(self):
        self.assertEqual(plain_step(width=3, counter=0, hand=2, cells=(1, 5)), (1, 5, [1, 5]))
        self.assertEqual(state_bits(width=3, counter=0, hand=2, cells=(1, 5)), [0, 0, 1, 0, 1, 0, 0, 1, 0, 1])
        self.assertEqual(state_of(width=3, bits=(0, 0, 1, 0, 1, 0, 0, 1, 0, 1)), (0, 2, [1, 5]))

    def test_state_bits_back_and_forth(self):
        for bits in itertools.product((0, 1), repeat=10):
            state = state_of(3, list(bits))
            self.assertIsInstance(state, tuple)
            self.assertEqual([state_bits(3, *state), slow_bits(3, *state)], [list(bits)] * 2)
        for state in some_states(4):
            bits = state_bits(4, *state)
            self.assertEqual([bits, state_of(4, bits)], [slow_bits(4, *state), state])
        self.assertEqual(state_of(4, [0, 1] + [1, 0, 0, 0] + [0] * 12 + [1, 1, 0, 1]), (2, 1, [0, 0, 0, 11]))

    def test_wrong_widths(self):
        for wrong in NO_WIDTHS:
            for call in (lambda: plain_step(wrong, -1, -1, None), lambda: state_bits(wrong, None, None, None),
                         lambda: state_of(wrong, None), lambda: step_net(wrong), lambda: Machine(PUBLIC, None, width=wrong)):
                found = told(call)
                self.assertEqual(found, ("InvalidNumber", {"value": wrong}))
                self.assertIs(found[1]["value"], wrong)

    def test_wrong_states(self):
        for call in (plain_step, state_bits):
            for width, cells in ((3, [1, 5]), (4, [1, 2, 3, 4])):
                for wrong in [-1, len(cells), GREAT, -GREAT] + NO_NUMBERS:
                    found = told(call, width, wrong, None, None)
                    self.assertEqual(found, ("InvalidNumber", {"value": wrong}))
                    self.assertIs(found[1]["value"], wrong)
                for wrong in [-1, 2 ** width, GREAT] + NO_NUMBERS:
                    self.assertEqual(told(call, width, 0, wrong, None), ("InvalidNumber", {"value": wrong}))
                    for at in range(len(cells)):
                        row = cells[:at] + [wrong] * (len(cells) - at)
                        self.assertEqual(told(call, width, 0, 0, row), ("BadWords", {"at": at}))
                for wrong in NO_LISTS + [[], cells[:-1], cells + [0], tuple(cells) * 2]:
                    self.assertEqual(told(call, width, 0, 0, wrong), ("BadWords", {"at": -1}))

    def test_wrong_bits(self):
        for width, many in MANY.items():
            for wrong in NO_LISTS + [[], [0] * (many - 1), [0] * (many + 1), [None] * (many + 1)]:
                self.assertEqual(told(state_of, width, wrong), ("BadBits", {"at": -1}))
            for wrong in [-1, 2, GREAT] + NO_NUMBERS:
                for at in (0, 3, many - 1):
                    self.assertEqual(told(state_of, width, [0] * at + [wrong] * (many - at)), ("BadBits", {"at": at}))


class StepNets(unittest.TestCase):
    def test_against_the_plain_machine(self):
        net = step_net(3)
        for bits in itertools.product((0, 1), repeat=10):
            self.assertEqual(net.plain(bits), slow_bits(3, *slow_step(3, *state_of(3, bits))))
        net = step_net(width=4)
        for state in some_states(4, 1500):
            self.assertEqual(net.plain(slow_bits(4, *state)), slow_bits(4, *slow_step(4, *state)))

    def test_what_is_promised(self):
        for width, many in MANY.items():
            net = step_net(width)
            self.assertEqual([net.inputs, len(net.outputs()), net.is_modest()], [many, many, True])
            self.assertTrue(net.allowed(USUAL))
            self.assertEqual(net, step_net(width))
            self.assertEqual(net.needed(), list(range(2 + net.inputs, net.wires)))


class Machines(unittest.TestCase):
    def test_attributes(self):
        covers = fresh_covers(3, (0, 2, [1, 5]))
        for machine in (Machine(PUBLIC, covers, width=3), Machine(public=PUBLIC, covers=tuple(covers), width=3)):
            self.assertEqual([machine.sizes, machine.public, machine.width, machine.stepped], [USUAL, PUBLIC, 3, 0])
            self.assertEqual([machine.covers(), machine.touches()], [covers, []])
        self.assertIsInstance(vars(Machine)["stepped"], property)

    def test_lists_are_copied(self):
        covers = fresh_covers(3, (0, 2, [1, 5]))
        machine, kept = Machine(PUBLIC, covers, width=3), list(covers)
        covers[0] = None
        machine.covers().clear()
        found, touches = machine.covers(), machine.touches()
        machine.step()
        machine.touches().clear()
        self.assertEqual([found, touches], [kept, []])
        other = Machine(PUBLIC, kept, width=3)
        other.step()
        self.assertEqual(machine.covers(), other.covers())
        self.assertEqual(len(machine.touches()), step_net(3).size * 19)

    def test_steps_open_to_the_plain_machine(self):
        chance = random.Random(9)
        for width, many in ((3, 12), (4, 5)):
            for state in some_states(width, many):
                machine = Machine(PUBLIC, fresh_covers(width, state), width=width)
                for steps in range(1, 5):
                    if chance.random() < 0.5:
                        self.assertIsNone(machine.step())
                    else:
                        self.assertIsNone(machine.run(1))
                    state = slow_step(width, *state)
                    self.assertEqual([machine.stepped, opened(machine)], [steps, state])
                    for cover, bit in zip(machine.covers(), slow_bits(width, *state)):
                        self.assertLessEqual(KEY.noise_at(cover, 1 if bit else 7), USUAL.limit)

    def test_all_deeds_under_cover(self):
        for counter, hand, deed, address in itertools.product(range(2), (0, 5), range(4), range(2)):
            cells = [3, 6]
            cells[counter] = 2 * deed + address
            machine = a_machine(3, (counter, hand, cells))
            machine.step()
            self.assertEqual(opened(machine), slow_step(3, counter, hand, cells))

    def test_other_roomy_sizes_and_draws(self):
        for sizes in (Sizes(2, 8, 16, 6, 1), Sizes(1, 8, 16, 5, 1), Sizes(3, 16, 256, 4, 2)):
            self.assertTrue(sizes.roomy)
            draws = Listed([7 ** 25, 11 ** 30, 13 ** 28, 3, 2 ** 40 + 1], [sizes.spread, -sizes.spread])
            key = Key.drawn(sizes, draws=draws)
            machine = Machine(key.public_tables(draws=draws), fresh_covers(3, (0, 3, [3, 6]), key), width=3)
            machine.run(4)
            state = (0, 3, [3, 6])
            for _ in range(4):
                state = slow_step(3, *state)
            self.assertEqual(opened(machine, key), state)

    def test_a_step_is_a_run_of_the_step_net(self):
        for width, state in ((3, (1, 6, [2, 4])), (4, (2, 9, [1, 12, 5, 7]))):
            machine, net = a_machine(width, state), step_net(width)
            runners = []
            for _ in range(2):
                runners.append(Runner(net, PUBLIC, machine.covers()))
                runners[-1].run()
                machine.step()
                self.assertEqual(machine.covers(), runners[-1].outputs())
            self.assertEqual(machine.touches(), runners[0].touches() + runners[1].touches())

    def test_touches_hang_on_the_width_the_sizes_and_the_steps_alone(self):
        one, other = a_machine(3, (0, 2, [1, 5])), Machine(drawn(USUAL, 8)[1], [some_cover(USUAL, 5)] * 10, width=3)
        for machine in (one, other):
            machine.run(3)
        self.assertEqual(one.touches(), other.touches())
        self.assertEqual(one.touches(), a_machine(3, (1, 7, [6, 6])).touches() + one.touches())

    def test_runs(self):
        machine, other = a_machine(), a_machine()
        before = told_state(machine)
        self.assertIsNone(machine.run(0))
        self.assertEqual(told_state(machine), before)
        machine.run(steps=3)
        for _ in range(3):
            other.step()
        self.assertEqual(told_state(machine), told_state(other))
        machine.run(20)
        self.assertEqual(machine.stepped, 23)

    def test_wrong_numbers_of_steps(self):
        machine = a_machine()
        machine.step()
        before = told_state(machine)
        for wrong in [-1, 21, GREAT, -GREAT] + NO_NUMBERS:
            found = told(machine.run, wrong)
            self.assertEqual(found, ("InvalidNumber", {"value": wrong}))
            self.assertIs(found[1]["value"], wrong)
        self.assertEqual(told_state(machine), before)

    def test_wrong_covers(self):
        far_public = drawn(FAR, 3)[1]
        for width, many in MANY.items():
            cover = some_cover(USUAL, 1)
            for wrong in NO_LISTS + [cover, [], [cover] * (many - 1), (cover,) * (many + 1), [None]]:
                for public in (PUBLIC, far_public):
                    self.assertEqual(told(Machine, public, wrong, width=width), ("BadCover", {"at": -1}))
            for wrong in NO_NUMBERS + [0, [cover], "0 0 0", KEY, PUBLIC, some_cover(TINY, 1)]:
                for at in (0, 4, many - 1):
                    row = [cover] * at + [wrong] * (many - at)
                    self.assertEqual(told(Machine, PUBLIC, row, width=width), ("BadCover", {"at": at}))
            self.assertEqual(told(Machine, far_public, [cover] * many, width=width), ("BadCover", {"at": 0}))
            for one, two in each_other_sizes():
                row = [some_cover(one, 1)] + [some_cover(two, 1)] * (many - 1)
                self.assertEqual(told(Machine, drawn(one, 3)[1], row, width=width), ("BadCover", {"at": 1}))

    def test_weighings_that_are_not_allowed(self):
        public = drawn(FAR, 3)[1]
        for width, many in MANY.items():
            cover = some_cover(FAR, 1)
            wanted = told(Runner, step_net(width), public, [cover] * many)
            self.assertEqual(wanted[0], "NotAllowed")
            self.assertEqual(told(Machine, public, [cover] * many, width=width), wanted)
            text = joined_lines([f"machine {width} 5"] + [cover.text()] * many)
            self.assertEqual(told(Machine.resumed, public, text), wanted)
            self.assertEqual(told(Machine.resumed, public, text + "x"), ("InvalidText", {"line": many + 1}))


class Texts(unittest.TestCase):
    def test_signs(self):
        covers = fresh_covers(3, (0, 2, [1, 5]))
        machine = Machine(PUBLIC, covers, width=3)
        self.assertEqual(machine.text(), joined_lines(["machine 3 0"] + [cover.text() for cover in covers]))
        machine.run(2)
        self.assertEqual(machine.text(), joined_lines(["machine 3 2"] + [cover.text() for cover in machine.covers()]))

    def test_stepped_stopped_read_and_gone_on_with(self):
        for width, state in ((3, (0, 2, [1, 5])), (4, (3, 9, [4, 12, 9, 7]))):
            whole = a_machine(width, state)
            whole.run(4)
            machine = a_machine(width, state)
            for _ in range(4):
                machine.step()
                again = Machine.resumed(public=PUBLIC, text=machine.text())
                self.assertEqual(told_state(again), told_state(machine)[:-1] + [[]])
                self.assertEqual(again.public, PUBLIC)
                machine = again
            self.assertEqual(told_state(machine)[:-1], told_state(whole)[:-1])
            one, other = machine.twin(), machine
            one.step()
            other.step()
            # A resumed machine has the touches of its own steps alone.
            self.assertEqual(other.touches(), whole.touches()[:len(whole.touches()) // 4])

    def test_whether_covers_are_right_is_not_looked_at(self):
        text = joined_lines(["machine 4 17"] + [f"{at} 0 4294967295" for at in range(22)])
        machine = Machine.resumed(PUBLIC, text)
        self.assertEqual([machine.text(), machine.stepped, machine.width], [text, 17, 4])

    def test_numbers_of_steps(self):
        covers = [cover.text() for cover in fresh_covers(3, (0, 2, [1, 5]))]
        for steps in (0, 1, 999, 9998, 9999):
            machine = Machine.resumed(PUBLIC, joined_lines([f"machine 3 {steps}"] + covers))
            self.assertEqual([machine.stepped, machine.touches()], [steps, []])
        machine.step()
        # The text is written likewise, but cannot be read.
        self.assertEqual([machine.stepped, machine.text().split("\n")[0]], [10000, "machine 3 10000"])
        self.assertEqual(told(Machine.resumed, PUBLIC, machine.text()), ("InvalidText", {"line": 0}))

    def test_bent_texts(self):
        machine = a_machine()
        machine.step()
        for text, line in bent_texts(machine.text()):
            self.assertEqual(told(Machine.resumed, PUBLIC, text), ("InvalidText", {"line": line}), repr(text[:80]))

    def test_bent_heads(self):
        lines = a_machine().text().split("\n")[1:-1]
        for head in ("machine 2 0", "machine 5 0", "machine 03 0", "machine 3 -1", "machine 3 00", "machine 3", "machine 3 0 0",
                     "machine  3 0", "Machine 3 0", "machine 3 10000", "machine 4294967296 0", "", "3 0", "machine -3 0",
                     "machine 3 x", "machine x 0", "public 3 0"):
            self.assertEqual(told(Machine.resumed, PUBLIC, joined_lines([head] + lines)), ("InvalidText", {"line": 0}))
        # With the other width there are too few lines.
        self.assertEqual(told(Machine.resumed, PUBLIC, joined_lines(["machine 4 0"] + lines)), ("InvalidText", {"line": 11}))

    def test_bent_covers(self):
        lines = a_machine().text().split("\n")[:-1]
        for at in (1, 5, 10):
            for bent in ("", "1 2", "1 2 3 4", "1 2 4294967296", "1 -2 3", "01 2 3", "1 2 3 ", " 1 2 3", "1  2 3", "a b c"):
                text = joined_lines(lines[:at] + [bent] + lines[at + 1:])
                self.assertEqual(told(Machine.resumed, PUBLIC, text), ("InvalidText", {"line": at}))
        # Covers of other sizes have other numbers.
        other = drawn(Sizes(2, 8, 256, 3, 1), 3)[1]
        self.assertEqual(told(Machine.resumed, other, joined_lines(lines))[0], "InvalidText")

    def test_values_that_are_no_strings(self):
        for value in NO_STRINGS + [a_machine()]:
            self.assertEqual(told(Machine.resumed, PUBLIC, value), ("InvalidText", {"line": 0}))


class Twins(unittest.TestCase):
    def test_the_same_state(self):
        machine = a_machine()
        machine.run(2)
        twin = machine.twin()
        self.assertIsInstance(twin, Machine)
        self.assertEqual([told_state(twin), twin.public], [told_state(machine), PUBLIC])

    def test_independence(self):
        machine = a_machine()
        machine.run(2)
        twin, before = machine.twin(), told_state(machine)
        twin.step()
        self.assertEqual(told_state(machine), before)
        other, before = machine.twin(), told_state(twin)
        machine.run(3)
        self.assertEqual([told_state(twin), other.stepped], [before, 2])
        other.step()
        self.assertEqual(told_state(other), told_state(twin))


if __name__ == "__main__":
    unittest.main()
