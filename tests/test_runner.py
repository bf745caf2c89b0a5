"""Promises 22, 24, 25, 26 and 27: runners, with promises 2, 14 and 17 for them."""

import itertools
import random
import unittest

from helpers import (GREAT, MODEST, NO_NUMBERS, NO_STRINGS, TINY, USUAL, bent_lines, drawn, each_other_sizes,
                     joined_lines, plain_values, random_net, some_cover, told)
from veiledgates.covers import Cover
from veiledgates.draws import Made
from veiledgates.keys import Key
from veiledgates.nets import Net
from veiledgates.refreshing import refreshed
from veiledgates.runner import Runner
from veiledgates.sizes import Sizes
from veiledgates.weighings import Weighing, standard, weighed, weighted_sum

NEAR = Sizes(2, 8, 65536, 2, 25)
EXACT = Sizes(2, 8, 16, 6, 0)
AND, OR, XOR, NOT = standard("and"), standard("or"), standard("xor"), Weighing(-1)
# The wires 5 and 6 hang on the inputs alone, 7 on them, 8 on 7; 9 has constants, and 10 an input twice.
NET = Net(3, [(AND, (2, 3)), (OR, (3, 4)), (XOR, (5, 6)), (NOT, (7,)), (OR, (0, 1)), (AND, (4, 4))], [8, 5, 1, 2, 8])
KEY, PUBLIC = drawn(USUAL, 1)


def fresh_covers(key, bits, seed=2):
    draws = Made(seed)
    return [key.fresh(bit, draws=draws) for bit in bits]


def a_runner(bits=(1, 0, 1)):
    return Runner(NET, PUBLIC, fresh_covers(KEY, bits))


def state(runner):
    """All that a runner tells of itself."""
    covers = {wire: cover.text() for wire, cover in runner.covers().items()}
    return [runner.done, runner.left, covers, list(covers), runner.touches(), runner.text(), repr(runner)]


def touches_of(sizes, wires):
    found = []
    for wire in wires:
        found.append(("weigh", wire))
        found.extend(("select", i) for i in range(sizes.length))
        found.extend(("lead", j, i) for j in range(sizes.ring) for i in range(sizes.places))
    return found


def slow_covers(net, public, covers):
    """The covers of all wires, by weighing after weighing."""
    found = [Cover.constant(public.sizes, 0), Cover.constant(public.sizes, 1)] + list(covers)
    for weighing, sources in net.steps():
        found.append(refreshed(public, weighted_sum(weighing, [found[source] for source in sources])))
    return found


class Making(unittest.TestCase):
    def test_attributes(self):
        covers = fresh_covers(KEY, (1, 0, 1))
        for runner in (Runner(NET, PUBLIC, covers), Runner(net=NET, public=PUBLIC, covers=tuple(covers))):
            self.assertEqual([runner.sizes, runner.net, runner.public], [USUAL, NET, PUBLIC])
            self.assertEqual([runner.done, runner.left, runner.touches()], [[], 6, []])
            self.assertEqual(runner.covers(), dict(zip((2, 3, 4), covers)))
            self.assertEqual(repr(runner), "Runner(0 of 6 done)")
        for name in ("done", "left"):
            self.assertIsInstance(vars(Runner)[name], property)

    def test_without_inputs_and_weighings(self):
        runner = Runner(Net(0, [], [1, 0]), PUBLIC, [])
        self.assertEqual([runner.run(), runner.left, runner.text(), runner.covers()], [[], 0, "", {}])
        self.assertEqual(runner.outputs(), [Cover.constant(USUAL, 1), Cover.constant(USUAL, 0)])

    def test_lists_are_copied(self):
        covers = fresh_covers(KEY, (1, 0, 1))
        runner = Runner(NET, PUBLIC, covers)
        first = covers[0]
        covers[0] = some_cover(USUAL, 5)
        covers.clear()
        runner.run(stop=2)
        before = state(runner)
        runner.covers().clear()
        runner.covers()[2] = None
        runner.done.clear()
        runner.touches().clear()
        runner.tried(None).clear()
        self.assertEqual(state(runner), before)
        self.assertEqual(runner.cover(2), first)

    def test_what_was_returned_stays(self):
        runner = a_runner()
        done, covers, touches, order = runner.done, runner.covers(), runner.touches(), runner.run(stop=1)
        runner.run()
        self.assertEqual([done, sorted(covers), touches, order], [[], [2, 3, 4], [], [5]])

    def test_covers_that_are_no_list(self):
        cover = some_cover(USUAL, 1)
        for wrong in [None, True, 3, "abc", {}, {0: cover, 1: cover, 2: cover}, cover, [], [cover] * 2, (cover,) * 4]:
            self.assertEqual(told(Runner, NET, PUBLIC, wrong), ("BadCover", {"at": -1}))

    def test_items_that_are_no_covers(self):
        cover = some_cover(USUAL, 1)
        for at in range(3):
            for wrong in NO_NUMBERS + [0, [cover], "0 0 0", KEY, PUBLIC, some_cover(TINY, 1)]:
                row = [cover] * at + [wrong] * (3 - at)
                self.assertEqual(told(Runner, NET, PUBLIC, row), ("BadCover", {"at": at}))

    def test_covers_with_other_sizes(self):
        for sizes, other in each_other_sizes():
            for one, two in ((sizes, other), (other, sizes)):
                public = drawn(one, 3)[1]
                row = [some_cover(one, 1), some_cover(two, 1), some_cover(two, 1)]
                self.assertEqual(told(Runner, Net(3, [], []), public, row), ("BadCover", {"at": 1}))

    def test_weighings_that_are_not_allowed(self):
        far = Sizes(2, 8, 65536, 2, 26)
        public, cover = drawn(far, 3)[1], some_cover(far, 1)
        for steps, wire, row in (([(AND, (2, 2))], 3, (0, 0)), ([(XOR, (2, 2)), (OR, (0, 1)), (AND, (2, 2))], 4, (0, 0)),
                                 ([(XOR, (2, 2)), (Weighing(1), (2,)), (AND, (2, 2)), (XOR, (2, 2))], 5, (0, 0)),
                                 ([(XOR, (2, 2)), (Weighing(3, 3, shift=-1), (2, 2)), (AND, (2, 2))], 4, (0, 0))):
            found = told(Runner, Net(1, steps, []), public, [cover])
            self.assertEqual(found, ("NotAllowed", {"wire": wire, "row": row}))
            # Wrong covers come first.
            self.assertEqual(told(Runner, Net(1, steps, []), public, [None]), ("BadCover", {"at": 0}))
            self.assertEqual(told(Runner, Net(1, steps, []), public, None), ("BadCover", {"at": -1}))
        self.assertEqual(told(Runner, Net(1, [(XOR, (2, 2))], []), public, [cover]), None)


class Doing(unittest.TestCase):
    def test_one_weighing(self):
        runner = a_runner()
        covers = [runner.cover(wire) for wire in (2, 3)]
        self.assertIs(runner.do(5), True)
        self.assertEqual([runner.done, runner.left, repr(runner)], [[5], 5, "Runner(1 of 6 done)"])
        self.assertEqual(runner.cover(5), weighed(PUBLIC, AND, covers))
        before = state(runner)
        for wire in range(6):
            self.assertIs(runner.do(wire=wire), False)
        self.assertEqual(state(runner), before)

    def test_constants_as_sources(self):
        runner = a_runner()
        self.assertIs(runner.do(9), True)
        self.assertEqual(runner.cover(9), weighed(PUBLIC, OR, [Cover.constant(USUAL, 0), Cover.constant(USUAL, 1)]))

    def test_what_is_refused(self):
        runner = a_runner()
        for done in range(3):
            before = state(runner)
            for wrong in [-1, 11, GREAT, -GREAT] + NO_NUMBERS:
                found = told(runner.do, wrong)
                self.assertEqual(found, ("NoWire", {"wire": wrong}))
                self.assertIs(found[1]["wire"], wrong)
            # The first source that is not done is told.
            self.assertEqual(told(runner.do, 8), ("NotReady", {"wire": 7}))
            self.assertEqual(told(runner.do, 7), [("NotReady", {"wire": 5}), ("NotReady", {"wire": 5}),
                                                  ("NotReady", {"wire": 6})][done])
            self.assertEqual(state(runner), before)
            runner.do([9, 5, 6][done])
        self.assertIs(runner.do(7), True)
        self.assertEqual([runner.done, runner.left], [[5, 6, 7, 9], 2])

    def test_the_first_missing_source_by_its_place(self):
        net = Net(1, [(NOT, (2,)), (NOT, (2,)), (AND, (4, 3))], [])
        runner = Runner(net, PUBLIC, fresh_covers(KEY, [1]))
        self.assertEqual(told(runner.do, 5), ("NotReady", {"wire": 4}))


class Running(unittest.TestCase):
    def test_all(self):
        runner = a_runner()
        self.assertEqual(runner.run(), [5, 6, 7, 8, 9, 10])
        self.assertEqual([runner.done, runner.left, repr(runner)], [[5, 6, 7, 8, 9, 10], 0, "Runner(6 of 6 done)"])
        self.assertEqual(runner.run(), [])
        wanted = slow_covers(NET, PUBLIC, fresh_covers(KEY, (1, 0, 1)))
        self.assertEqual([runner.cover(wire) for wire in range(11)], wanted)

    def test_orders(self):
        for order, wanted in (([10, 6, 5, 7], [10, 6, 5, 7]), ((9,), [9]), ([], []), ([5, 5, 6, 5], [5, 6]),
                              ([9, 10, 9, 5, 10], [9, 10, 5]), ([6, 5, 7, 8, 9, 10], [6, 5, 7, 8, 9, 10])):
            runner = a_runner()
            kept = list(order)
            found = runner.run(order=order)
            self.assertIsInstance(found, list)
            self.assertEqual([found, runner.done, list(order)], [wanted, sorted(wanted), kept])

    def test_what_is_done_is_skipped(self):
        runner = a_runner()
        runner.run(order=[6, 9])
        self.assertEqual(runner.run(order=[9, 5, 6, 7]), [5, 7])
        self.assertEqual(runner.run(), [8, 10])

    def test_stops(self):
        for stop in range(9):
            runner = a_runner()
            self.assertEqual(runner.run(stop=stop), [5, 6, 7, 8, 9, 10][:stop])
            self.assertEqual([runner.done, runner.left], [[5, 6, 7, 8, 9, 10][:stop], max(0, 6 - stop)])
            self.assertEqual(runner.run(order=None, stop=None), [5, 6, 7, 8, 9, 10][stop:])
        runner = a_runner()
        # What was done before does not count for the stop.
        runner.run(order=[6])
        self.assertEqual([runner.run(stop=2), runner.run(stop=GREAT)], [[5, 7], [8, 9, 10]])

    def test_what_stands_behind_the_stop_is_not_looked_at(self):
        for behind in ([None], [99], [8], [[]], ["x", 5], [0]):
            runner = a_runner()
            self.assertEqual(runner.run(order=[6, 9] + behind, stop=2), [6, 9])
            self.assertEqual(runner.run(order=behind, stop=0), [])
            self.assertEqual(runner.run(order=[6, 9, 6, 5] + behind, stop=1), [5])

    def test_items_ahead_of_the_stop_are_looked_at(self):
        runner = a_runner()
        runner.run(order=[6, 9])
        before = state(runner)
        self.assertEqual(told(runner.run, order=[6, 9, 0], stop=1), ("NoWire", {"wire": 0}))
        self.assertEqual(told(runner.run, order=[6, 9, 8], stop=1), ("NotReady", {"wire": 7}))
        self.assertEqual(state(runner), before)

    def test_wrong_stops(self):
        runner = a_runner()
        before = state(runner)
        for wrong in [-1, -GREAT] + [value for value in NO_NUMBERS if value is not None]:
            for order in (None, [5], 7, [None]):
                found = told(runner.run, order=order, stop=wrong)
                self.assertEqual(found, ("InvalidNumber", {"value": wrong}))
                self.assertIs(found[1]["value"], wrong)
        self.assertEqual(state(runner), before)

    def test_wrong_orders(self):
        runner = a_runner()
        before = state(runner)
        for wrong in [True, False, 5, "", "5", {}, {5: 1}, NET, KEY]:
            for call, named in ((runner.run, {"order": wrong}), (runner.run, {"order": wrong, "stop": 0}),
                                (runner.tried, {"order": wrong})):
                found = told(call, **named)
                self.assertEqual(found, ("NoWire", {"wire": wrong}))
                self.assertIs(found[1]["wire"], wrong)
        self.assertEqual(state(runner), before)

    def test_wrong_items(self):
        runner = a_runner()
        runner.run(order=[9])
        before = state(runner)
        for wrong in [0, 1, 2, 4, 11, -1, GREAT, -GREAT] + NO_NUMBERS:
            for order in ([wrong], [5, wrong, 8], (9, 6, wrong, None)):
                for call in (lambda: runner.run(order=order), lambda: runner.run(order=order, stop=5),
                             lambda: runner.tried(order)):
                    found = told(call)
                    self.assertEqual(found, ("NoWire", {"wire": wrong}))
                    self.assertIs(found[1]["wire"], wrong)
        for order, wire in (([8], 7), ([7], 5), ([5, 7], 6), ([5, 6, 8, None], 7), ([6, 7, 5], 5), ([10, 8, 7], 7)):
            for call in (lambda: runner.run(order=order), lambda: runner.run(order=order, stop=9),
                         lambda: runner.tried(order)):
                self.assertEqual(told(call), ("NotReady", {"wire": wire}))
        self.assertEqual(state(runner), before)

    def test_the_first_wrong_item_counts(self):
        runner = a_runner()
        self.assertEqual(told(runner.run, order=[5, 8, None]), ("NotReady", {"wire": 7}))
        self.assertEqual(told(runner.run, order=[5, None, 8]), ("NoWire", {"wire": None}))


class Trying(unittest.TestCase):
    def test_what_run_would_give(self):
        for ahead in ([], [6], [5, 6, 7], [9, 10]):
            for order in (None, [5], [6, 5, 7], [10, 9, 9], (6, 5, 7, 8), []):
                runner = a_runner()
                runner.run(order=ahead)
                before, twin = state(runner), runner.twin()
                found = runner.tried(order=order)
                self.assertIsInstance(found, dict)
                self.assertEqual(state(runner), before)
                twin.run(order=order)
                wires = range(5, 11) if order is None else sorted(set(order))
                self.assertEqual(list(found), list(wires))
                self.assertEqual(found, {wire: twin.cover(wire) for wire in wires})

    def test_a_try_does_nothing(self):
        runner = a_runner()
        runner.tried(None)
        self.assertEqual([runner.done, runner.touches()], [[], []])
        self.assertEqual(told(runner.cover, 5), ("NotReady", {"wire": 5}))


class TakingBack(unittest.TestCase):
    def test_the_last_weighings_are_taken_back(self):
        runner, states = a_runner(), []
        for order in ([6], [9, 5], [7, 10], [8]):
            states.append((state(runner), len(order)))
            runner.run(order=order)
        for before, many in reversed(states):
            runner.take_back(0)
            runner.take_back(many)
            self.assertEqual(state(runner), before)
        self.assertEqual(runner.run(), [5, 6, 7, 8, 9, 10])


class Telling(unittest.TestCase):
    def test_covers_of_wires(self):
        covers = fresh_covers(KEY, (1, 0, 1))
        runner = Runner(NET, PUBLIC, covers)
        self.assertEqual([runner.cover(wire=wire) for wire in range(5)],
                         [Cover.constant(USUAL, 0), Cover.constant(USUAL, 1)] + covers)
        for wire in range(5, 11):
            self.assertEqual(told(runner.cover, wire), ("NotReady", {"wire": wire}))
        for wrong in [-1, 11, GREAT] + NO_NUMBERS:
            found = told(runner.cover, wrong)
            self.assertEqual(found, ("NoWire", {"wire": wrong}))
            self.assertIs(found[1]["wire"], wrong)

    def test_outputs(self):
        runner = a_runner()
        self.assertEqual(told(runner.outputs), ("NotReady", {"wire": 8}))
        runner.run(order=[5])
        self.assertEqual(told(runner.outputs), ("NotReady", {"wire": 8}))
        runner.run(order=[6, 7, 8])
        self.assertEqual(runner.outputs(), [runner.cover(wire) for wire in (8, 5, 1, 2, 8)])
        other = Runner(Net(1, [(NOT, (2,)), (NOT, (2,))], [4, 2, 3]), PUBLIC, fresh_covers(KEY, [1]))
        self.assertEqual(told(other.outputs), ("NotReady", {"wire": 4}))
        other.do(4)
        self.assertEqual(told(other.outputs), ("NotReady", {"wire": 3}))

    def test_all_covers_ascend(self):
        runner = a_runner()
        runner.run(order=[10, 6, 5])
        self.assertEqual(list(runner.covers()), [2, 3, 4, 5, 6, 10])
        self.assertEqual([runner.done, runner.left], [[5, 6, 10], 3])
        self.assertTrue(all(runner.covers()[wire] == runner.cover(wire) for wire in runner.covers()))

    def test_touches(self):
        runner = a_runner()
        runner.run(order=[10, 6])
        runner.do(9)
        runner.do(9)
        runner.tried(None)
        told(runner.run, order=[5, None])
        runner.run()
        self.assertEqual(runner.touches(), touches_of(USUAL, [10, 6, 9, 5, 7, 8]))

    def test_touches_hang_on_the_sizes_and_the_order_alone(self):
        for sizes in (USUAL, EXACT, Sizes(1, 16, 4, 8, 0)):
            found = []
            for seed in range(4):
                key, public = drawn(sizes, seed)
                bits = [seed % 2, 1, seed // 2]
                runner = Runner(Net(3, [(XOR, (2, 3)), (XOR, (0, 0))], []), public, fresh_covers(key, bits, seed))
                runner.run(order=[6, 5])
                found.append(runner.touches())
            self.assertEqual(found, [touches_of(sizes, [6, 5])] * 4)
        constants = Runner(Net(1, [(NOT, (0,))], []), PUBLIC, [Cover.constant(USUAL, 0)])
        constants.run()
        self.assertEqual(constants.touches(), touches_of(USUAL, [3]))

    def test_the_kinds_of_touches(self):
        runner = Runner(Net(0, [(standard("xor"), (0, 1))], []), drawn(Sizes(1, 4, 64, 3, 0), 1)[1], [])
        runner.run()
        self.assertEqual(runner.touches(), [
            ("weigh", 2), ("select", 0),
            ("lead", 0, 0), ("lead", 0, 1), ("lead", 0, 2), ("lead", 1, 0), ("lead", 1, 1), ("lead", 1, 2),
            ("lead", 2, 0), ("lead", 2, 1), ("lead", 2, 2), ("lead", 3, 0), ("lead", 3, 1), ("lead", 3, 2),
        ])


class MainFact(unittest.TestCase):
    def check(self, key, public, net, covers, bits, order=None):
        sizes = public.sizes
        runner = Runner(net, public, covers)
        runner.run(order=order)
        values = plain_values(net, bits)
        for wire in [0, 1] + list(runner.covers()):
            cover = runner.cover(wire)
            self.assertLessEqual(key.noise_at(cover, 1 if values[wire] else 7), sizes.limit)
            self.assertEqual(key.opened(cover), values[wire])
        self.assertEqual([key.opened(cover) for cover in runner.outputs()], net.plain(bits))

    def test_all_inputs_of_one_net(self):
        for bits in itertools.product((0, 1), repeat=3):
            self.check(KEY, PUBLIC, NET, fresh_covers(KEY, bits), bits)

    def test_random_nets(self):
        for seed in range(12):
            net = random_net(seed, inputs=4, size=15, outputs=4, choices=MODEST)
            key, public = drawn(Sizes(2, 8, 65536, 2, 1 + seed % 3), seed)
            bits = [(seed >> k) & 1 for k in range(4)]
            self.check(key, public, net, fresh_covers(key, bits, seed), bits)

    def test_inputs_with_the_greatest_noise(self):
        key, public = drawn(NEAR, 4)
        for bits in itertools.product((0, 1), repeat=3):
            for sign in (1, -1):
                covers = []
                for at, bit in enumerate(bits):
                    cover = some_cover(NEAR, at)
                    level = NEAR.eighth if bit else -NEAR.eighth
                    wanted = level + sign * NEAR.limit - key.phase(cover)
                    covers.append(cover + Cover(NEAR, [0, 0], wanted))
                self.check(key, public, NET, covers, bits)

    def test_a_long_net(self):
        steps = [(XOR, (2, 3))]
        for at in range(300):
            steps.append(([AND, OR, XOR, standard("odd")][at % 4], (4 + at, 2 + at % 2, 3)[:2 + (at % 4 == 3)]))
        net = Net(2, steps, [304])
        key, public = drawn(NEAR, 5)
        for bits in ((1, 0), (1, 1)):
            self.check(key, public, net, fresh_covers(key, bits), bits)

    def test_no_noise_without_spread(self):
        net = Net(3, [(XOR, (2, 3)), (standard("odd"), (2, 3, 4)), (XOR, (5, 6))], [7])
        for seed in range(4):
            key, public = drawn(EXACT, seed)
            for bits in itertools.product((0, 1), repeat=3):
                runner = Runner(net, public, fresh_covers(key, bits, seed))
                runner.run()
                values = plain_values(net, bits)
                self.assertEqual([key.noise_at(runner.cover(wire), 1 if values[wire] else 7) for wire in range(8)], [0] * 8)

    def test_each_order_gives_the_same_covers(self):
        wanted = slow_covers(NET, PUBLIC, fresh_covers(KEY, (1, 0, 1)))
        orders = [order for order in itertools.permutations(range(5, 11))
                  if max(order.index(5), order.index(6)) < order.index(7) < order.index(8)]
        for order in orders[::4]:
            runner = a_runner()
            self.assertEqual(runner.run(order=order), list(order))
            self.assertEqual([runner.cover(wire) for wire in range(11)], wanted)

    def test_each_way_to_stop_and_go_on_gives_the_same_covers(self):
        net = random_net(3, inputs=3, size=14, outputs=3, choices=MODEST)
        covers = fresh_covers(KEY, (0, 1, 1))
        wanted = slow_covers(net, PUBLIC, covers)
        for seed in range(8):
            chance = random.Random(seed)
            runner = Runner(net, PUBLIC, covers)
            while runner.left:
                way = chance.randrange(4)
                if way == 0:
                    runner.run(stop=chance.randrange(4))
                elif way == 1:
                    runner = Runner.resumed(net, PUBLIC, runner.text())
                elif way == 2:
                    runner = runner.twin()
                else:
                    told(runner.do, chance.randrange(net.wires))
            self.assertEqual([runner.cover(wire) for wire in range(net.wires)], wanted)


class Texts(unittest.TestCase):
    def test_signs(self):
        net = Net(2, [(XOR, (2, 3)), (NOT, (3,)), (NOT, (0,))], [5])
        public = drawn(TINY, 1)[1]
        runner = Runner(Net(2, [], [3]), public, [Cover(TINY, [1], 2), Cover(TINY, [255], 0)])
        self.assertEqual(runner.text(), "2 1 2\n3 255 0\n")
        runner = Runner(net, PUBLIC, fresh_covers(KEY, (1, 0)))
        runner.run(order=[6, 4])
        self.assertEqual(runner.text(), "".join(f"{wire} {runner.cover(wire)}\n" for wire in (2, 3, 4, 6)))

    def test_resumed_runners(self):
        for order in ([], [6], [9, 5, 10], [6, 5, 7], None):
            runner = a_runner()
            runner.run(order=order)
            again = Runner.resumed(net=NET, public=PUBLIC, text=runner.text())
            self.assertEqual([again.net, again.public, again.sizes, again.touches()], [NET, PUBLIC, USUAL, []])
            self.assertEqual([again.done, again.left, again.covers()], [runner.done, runner.left, runner.covers()])
            self.assertEqual([list(again.covers()), repr(again)], [list(runner.covers()), repr(runner)])
            self.assertEqual([again.text(), again.cover(0), again.cover(1)],
                             [runner.text(), runner.cover(0), runner.cover(1)])
            did = again.run()
            self.assertEqual(did, runner.run())
            self.assertEqual([again.text(), again.touches()], [runner.text(), touches_of(USUAL, did)])

    def test_without_inputs(self):
        net = Net(0, [(NOT, (0,)), (NOT, (1,))], [2])
        runner = Runner(net, PUBLIC, [])
        self.assertEqual([runner.text(), Runner.resumed(net, PUBLIC, "").left], ["", 2])
        runner.do(3)
        self.assertEqual(Runner.resumed(net, PUBLIC, runner.text()).done, [3])
        self.assertEqual(told(Runner.resumed, net, PUBLIC, "\n"), ("InvalidText", {"line": 0}))

    def test_whether_covers_are_right_is_not_looked_at(self):
        text = "2 0 0 0\n3 1 1 1\n4 2 2 2\n5 3 3 3\n"
        runner = Runner.resumed(NET, PUBLIC, text)
        self.assertEqual([runner.text(), runner.done, runner.cover(5)], [text, [5], Cover(USUAL, [3, 3], 3)])

    def bent(self, lines, line, net=NET):
        found = told(Runner.resumed, net, PUBLIC, joined_lines(lines))
        self.assertEqual(found, line if line is None else ("InvalidText", {"line": line}), lines)

    def test_bent_lines(self):
        for order in ([], [6, 9], None):
            runner = a_runner()
            runner.run(order=order)
            lines = runner.text().split("\n")[:-1]
            for at, line in enumerate(lines):
                for bent in bent_lines(line):
                    self.bent(lines[:at] + [bent] + lines[at + 1:], at + 1 if bent == line + "\n" else at)
                for place in range(4):
                    words = line.split(" ")
                    for wrong in ("-1", "0" + words[place], "+" + words[place], "", "x", "1" * 5000, str(2 ** 32), "-0"):
                        words[place] = wrong
                        self.bent(lines[:at] + [" ".join(words)] + lines[at + 1:], at)
                self.bent(lines[:at + 1] + [line] + lines[at + 1:], at + 1)
                found = told(Runner.resumed, NET, PUBLIC, joined_lines(lines[:at]) + line)
                self.assertEqual(found, ("InvalidText", {"line": at}))

    def test_texts_that_end_too_early(self):
        runner = a_runner()
        runner.run()
        lines = runner.text().split("\n")[:-1]
        for many in range(len(lines) + 1):
            self.bent(lines[:many], many if many < 3 else None)
            for rest in ("x", " ", lines[0], lines[-1]):
                found = told(Runner.resumed, NET, PUBLIC, joined_lines(lines[:many]) + rest)
                self.assertEqual(found, ("InvalidText", {"line": many}))
        self.assertEqual(told(Runner.resumed, NET, PUBLIC, ""), ("InvalidText", {"line": 0}))

    def test_wires_in_a_wrong_order(self):
        def lines(*wires):
            return [f"{wire} 1 2 3" for wire in wires]
        for wires, line in (((2, 3, 4), None), ((3, 2, 4), 0), ((2, 4, 3), 1), ((2, 3), 2), ((2, 3, 5), 2), ((0, 2, 3, 4), 0),
                            ((1, 2, 3, 4), 0), ((2, 2, 3, 4), 1), ((2, 3, 4, 4), 3), ((2, 3, 4, 6, 5), 4),
                            ((2, 3, 4, 7), 3), ((2, 3, 4, 5, 7), 4), ((2, 3, 4, 6, 7), 4), ((2, 3, 4, 5, 6, 7), None),
                            ((2, 3, 4, 5, 6, 8), 5), ((2, 3, 4, 8), 3), ((2, 3, 4, 9), None), ((2, 3, 4, 10), None),
                            ((2, 3, 4, 10, 9), 4), ((2, 3, 4, 11), 3), ((2, 3, 4, 5, 5), 4), ((5, 2, 3, 4), 0),
                            ((2, 3, 4, 0), 3), ((2, 3, 4, 2), 3), ((2, 3, 4, 6, 9, 10), None), ((4,), 0), ((2, 9), 1)):
            self.bent(lines(*wires), line)

    def test_values_that_are_no_strings(self):
        for value in NO_STRINGS + [a_runner()]:
            self.assertEqual(told(Runner.resumed, NET, PUBLIC, value), ("InvalidText", {"line": 0}))

    def test_weighings_that_are_not_allowed(self):
        public = drawn(Sizes(2, 8, 65536, 2, 26), 3)[1]
        net = Net(1, [(XOR, (2, 2)), (AND, (2, 3))], [])
        self.assertEqual(told(Runner.resumed, net, public, "2 1 2 3\n"), ("NotAllowed", {"wire": 4, "row": (0, 0)}))
        self.assertEqual(told(Runner.resumed, net, public, "2 1 2\n"), ("InvalidText", {"line": 0}))
        self.assertEqual(told(Runner.resumed, net, public, ""), ("InvalidText", {"line": 0}))


class Twins(unittest.TestCase):
    def test_the_same_state(self):
        runner = a_runner()
        runner.run(order=[9, 6])
        twin = runner.twin()
        self.assertIsInstance(twin, Runner)
        self.assertEqual(state(twin), state(runner))
        self.assertEqual([twin.net, twin.public, twin.sizes], [NET, PUBLIC, USUAL])

    def test_independence(self):
        runner = a_runner()
        runner.run(order=[9, 6])
        twin, before = runner.twin(), state(runner)
        self.assertEqual(twin.run(), [5, 7, 8, 10])
        self.assertEqual(state(runner), before)
        other = runner.twin()
        runner.do(5)
        self.assertEqual(state(other), before)
        self.assertEqual(twin.touches(), touches_of(USUAL, [9, 6, 5, 7, 8, 10]))
        runner.run()
        self.assertEqual(runner.covers(), twin.covers())


if __name__ == "__main__":
    unittest.main()
