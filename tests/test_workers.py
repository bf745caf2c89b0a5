"""Promises 25, 26 and 28: workers, joined covers, judging, and touches told without covers, with promise 2 for them."""

import itertools
import random
import unittest

from helpers import (GREAT, MODEST, NO_NUMBERS, TINY, USUAL, drawn, each_other_sizes, random_net, some_cover, told)
from veiledgates.covers import Cover
from veiledgates.draws import Made
from veiledgates.nets import Net
from veiledgates.runner import Runner
from veiledgates.sizes import Sizes
from veiledgates.weighings import Weighing, standard, weighed
from veiledgates.workers import joined, judge, touches_of, worked

AND, OR, XOR, NOT = standard("and"), standard("or"), standard("xor"), Weighing(-1)
# The wires 5 and 6 hang on the inputs alone, 7 on them, 8 on 7; 9 has constants, and 10 an input twice.
NET = Net(3, [(AND, (2, 3)), (OR, (3, 4)), (XOR, (5, 6)), (NOT, (7,)), (OR, (0, 1)), (AND, (4, 4))], [8, 5, 1, 2, 8])
KEY, PUBLIC = drawn(USUAL, 1)
# The sizes allow XOR, but not AND.
FAR = Sizes(2, 8, 65536, 2, 26)
FAR_PUBLIC = drawn(FAR, 3)[1]
FAR_NET = Net(1, [(XOR, (2, 2)), (AND, (2, 3))], [])
NO_ORDERS = [None, True, False, 5, "", "5", {}, {5: 1}, NET, KEY]
# The known wires are skipped, but no wire of an order may be an input or a constant.
NO_ITEMS = [0, 1, 2, 4, 11, -1, GREAT, -GREAT] + NO_NUMBERS


def right_covers(bits=(1, 0, 1), net=NET):
    """The covers of all wires but the constants, as a runner makes them."""
    draws = Made(2)
    runner = Runner(net, PUBLIC, [KEY.fresh(bit, draws=draws) for bit in bits])
    runner.run()
    return runner.covers()


RIGHT = right_covers()


def some_of(*wires):
    return {wire: RIGHT[wire] for wire in wires}


def ready_order(net, chance):
    """All wires of weighings in some order in which each stands behind its sources."""
    left, found = list(range(2 + net.inputs, net.wires)), []
    while left:
        ready = [wire for wire in left if not set(net.sources(wire)) & set(left)]
        found.append(chance.choice(ready))
        left.remove(found[-1])
    return found


class Working(unittest.TestCase):
    def test_covers_of_a_runner(self):
        for known, order in (((2, 3, 4), [5, 6, 7, 8, 9, 10]), ((2, 3, 4), [10, 9, 6, 5, 7, 8]), ((4, 3, 2), (6,)),
                             ((), [9]), ((2, 3), [5]), ((4,), [10]), ((7,), [8, 9]), ((5, 6), [7, 8]), ((7, 4), (8, 10)),
                             ((2, 3, 4), []), ((), ())):
            kept = list(order)
            given = some_of(*known)
            found = worked(NET, PUBLIC, given, order)
            self.assertIsInstance(found, dict)
            self.assertEqual(list(found), sorted(order))
            self.assertEqual(found, some_of(*order))
            # What was passed stays as it was.
            self.assertEqual([list(order), list(given), given], [kept, list(known), some_of(*known)])

    def test_arguments_by_name(self):
        found = worked(net=NET, public=PUBLIC, known=some_of(2, 3), order=[5])
        self.assertEqual(found, some_of(5))

    def test_known_wires_are_skipped(self):
        self.assertEqual(worked(NET, PUBLIC, RIGHT, [5, 6, 7, 8, 9, 10]), {})
        self.assertEqual(worked(NET, PUBLIC, some_of(2, 3, 4, 5), [5, 6, 5, 7, 6]), some_of(6, 7))
        # A known wire is skipped also if its sources are not known, and whatever its cover is.
        other = some_cover(USUAL, 9)
        self.assertEqual(worked(NET, PUBLIC, {7: other}, [7, 7]), {})
        made = worked(NET, PUBLIC, {7: other}, [7, 8])
        self.assertEqual(list(made), [8])
        self.assertNotEqual(made[8], RIGHT[8])

    def test_wires_that_stand_twice(self):
        self.assertEqual(worked(NET, PUBLIC, some_of(2, 3), [5, 9, 5, 9, 9]), some_of(5, 9))

    def test_constants_are_known(self):
        constants = [Cover.constant(USUAL, 0), Cover.constant(USUAL, 1)]
        self.assertEqual(worked(NET, PUBLIC, {}, [9]), {9: weighed(PUBLIC, OR, constants)})

    def test_several_workers_and_orders(self):
        for seed in range(12):
            chance = random.Random(seed)
            net = random_net(seed, inputs=3, size=12, outputs=2, choices=MODEST)
            right = right_covers((1, 1, 0), net)
            parts = [{wire: right[wire] for wire in (2, 3, 4)}]
            order = ready_order(net, chance)
            while order:
                many = chance.randrange(1, 6)
                parts.append(worked(net, PUBLIC, joined(*parts), order[:many]))
                self.assertEqual(list(parts[-1]), sorted(order[:many]))
                order = order[many:]
            chance.shuffle(parts)
            whole = joined(*parts)
            self.assertEqual([whole, list(whole)], [right, list(right)])
            self.assertEqual(judge(net, PUBLIC, whole), ("right", 12))

    def test_wrong_orders(self):
        for wrong in NO_ORDERS:
            found = told(worked, NET, PUBLIC, some_of(2, 3, 4), wrong)
            self.assertEqual(found, ("NoWire", {"wire": wrong}))
            self.assertIs(found[1]["wire"], wrong)

    def test_wrong_items(self):
        known = some_of(2, 3, 4)
        for wrong in NO_ITEMS:
            for order in ([wrong], [5, wrong, 8], (9, 6, wrong, None)):
                found = told(worked, NET, PUBLIC, known, order)
                self.assertEqual(found, ("NoWire", {"wire": wrong}))
                self.assertIs(found[1]["wire"], wrong)
        self.assertEqual(known, some_of(2, 3, 4))

    def test_sources_that_are_not_known(self):
        for known, order, wire in (((2, 3, 4), [8], 7), ((2, 3, 4), [7], 5), ((2, 3, 4), [5, 7], 6), ((), [5], 2),
                                   ((2,), [5], 3), ((3,), [5], 2), ((2, 3), [6], 4), ((5,), [9, 7, None], 6), ((), [10], 4),
                                   ((2, 3, 4, 8), [6, 7, 5], 5), ((2, 3, 4), [5, 6, 8, None], 7)):
            self.assertEqual(told(worked, NET, PUBLIC, some_of(*known), order), ("NotReady", {"wire": wire}))
        self.assertEqual(told(worked, NET, PUBLIC, {}, [9, None, 8]), ("NoWire", {"wire": None}))

    def test_weighings_that_are_not_allowed_come_before_orders(self):
        for order in ([3], [], None, [None], 7):
            found = told(worked, FAR_NET, FAR_PUBLIC, {2: some_cover(FAR, 1)}, order)
            self.assertEqual(found, ("NotAllowed", {"wire": 4, "row": (0, 0)}))

    def test_unlike_sizes_come_first(self):
        for one, two in each_other_sizes():
            for order in ([3], None):
                for known in ({2: some_cover(two, 1)}, {3: some_cover(one, 1), 2: some_cover(two, 1)},
                              {2: some_cover(one, 1), 3: some_cover(two, 1)}):
                    self.assertEqual(told(worked, FAR_NET, drawn(one, 3)[1], known, order), ("Unlike", {}))


class Joining(unittest.TestCase):
    def test_dicts_that_agree(self):
        self.assertEqual(joined(), {})
        self.assertEqual([joined({}), joined({}, {}, {})], [{}, {}])
        one, other = some_of(8, 3, 5), some_of(5, 2, 10, 8)
        found = joined(one, other, {})
        self.assertEqual([found, list(found)], [some_of(2, 3, 5, 8, 10), [2, 3, 5, 8, 10]])
        self.assertEqual([list(one), list(other)], [[8, 3, 5], [5, 2, 10, 8]])
        # Equal covers agree also if they are other objects.
        again = {5: Cover(USUAL, RIGHT[5].mask(), RIGHT[5].body)}
        self.assertEqual(joined(one, again, again), some_of(3, 5, 8))

    def test_the_dict_is_new(self):
        one = some_of(5, 3)
        found = joined(one)
        self.assertIsNot(found, one)
        found.clear()
        self.assertEqual(one, some_of(5, 3))
        found = joined(one)
        one[7] = RIGHT[7]
        self.assertEqual(found, some_of(3, 5))

    def test_keys_are_any_numbers(self):
        cover = RIGHT[2]
        found = joined({7: cover, -3: cover, GREAT: cover}, {0: cover, -GREAT: cover, 1: cover})
        self.assertEqual(list(found), [-GREAT, -3, 0, 1, 7, GREAT])

    def test_the_least_clash(self):
        other = some_cover(USUAL, 9)
        for many in (1, 2, 3):
            for wires in itertools.combinations((2, 3, 5, 9), many):
                bent = {wire: other if wire in wires else RIGHT[wire] for wire in (9, 5, 2, 3)}
                for parts in ((RIGHT, bent), (bent, RIGHT), ({}, RIGHT, RIGHT, bent), (bent, some_of(10), RIGHT)):
                    found = told(joined, *parts)
                    self.assertEqual(found, ("Clash", {"wire": min(wires)}))

    def test_clashes_of_any_two(self):
        other = some_cover(USUAL, 9)
        self.assertEqual(told(joined, {5: other}, {7: other}, {6: other, 7: RIGHT[7]}, {5: RIGHT[5]}),
                         ("Clash", {"wire": 5}))
        self.assertEqual(told(joined, {-4: other}, {-5: other}, {-5: RIGHT[5]}, {-4: RIGHT[5]}), ("Clash", {"wire": -5}))
        self.assertEqual(told(joined, {1: other}, {1: other}, {1: other + other}), ("Clash", {"wire": 1}))

    def test_unlike_sizes_come_first(self):
        for one, two in each_other_sizes():
            a, b, c = some_cover(one, 1), some_cover(one, 2), some_cover(two, 1)
            for parts in (({1: a, 2: c},), ({1: a}, {2: c}), ({1: a}, {1: c}), ({1: a}, {1: b}, {}, {3: c}),
                          ({3: c}, {1: a}, {1: b})):
                self.assertEqual(told(joined, *parts), ("Unlike", {}))
        self.assertEqual(joined({1: some_cover(TINY, 1)}), {1: some_cover(TINY, 1)})


class Judging(unittest.TestCase):
    def test_right_covers(self):
        self.assertEqual(judge(NET, PUBLIC, RIGHT), ("right", 6))
        self.assertEqual(judge(net=NET, public=PUBLIC, covers=dict(reversed(list(RIGHT.items())))), ("right", 6))
        self.assertEqual(judge(NET, PUBLIC, {}), ("right", 0))
        for wires, many in (((2, 3, 4), 0), ((5,), 0), ((9,), 1), ((2, 3, 5), 1), ((3, 5), 0), ((4, 10), 1), ((5, 6, 7), 1),
                            ((7, 8), 1), ((2, 3, 5, 7, 8), 2), ((2, 3, 4, 5, 6, 8), 2), ((5, 6, 7, 8, 9, 10), 3)):
            found = judge(NET, PUBLIC, some_of(*wires))
            self.assertIsInstance(found, tuple)
            self.assertEqual(found, ("right", many))

    def test_the_first_wrong_one(self):
        other = some_cover(USUAL, 9)
        for many in (1, 2, 3):
            for wires in itertools.combinations(range(5, 11), many):
                bent = {wire: other if wire in wires else RIGHT[wire] for wire in reversed(range(2, 11))}
                kept = dict(bent)
                self.assertEqual(judge(NET, PUBLIC, bent), ("wrong", wires[0]))
                self.assertEqual([bent, list(bent)], [kept, list(kept)])

    def test_a_wrong_source_makes_the_next_one_wrong(self):
        other = some_cover(USUAL, 9)
        # The wire 7 is not done anew, as 6 is missing; so 8 is held against the wrong 7.
        self.assertEqual(judge(NET, PUBLIC, {**some_of(2, 3, 5, 8), 7: other}), ("wrong", 8))
        self.assertEqual(judge(NET, PUBLIC, {**some_of(2, 3, 5), 7: other}), ("right", 1))
        self.assertEqual(judge(NET, PUBLIC, {**some_of(3, 4, 5, 6, 7), 2: other}), ("wrong", 5))
        self.assertEqual(judge(NET, PUBLIC, {**some_of(3, 4, 6), 2: other}), ("right", 1))

    def test_a_bent_number_is_found(self):
        for wire in range(5, 11):
            mask, body = RIGHT[wire].mask(), RIGHT[wire].body
            for at in range(3):
                row = mask + [body]
                row[at] += 1
                self.assertEqual(judge(NET, PUBLIC, {**RIGHT, wire: Cover(USUAL, row[:-1], row[-1])}), ("wrong", wire))

    def test_keys_that_are_no_wires(self):
        cover = RIGHT[2]
        for keys, least in (((0,), 0), ((1,), 1), ((1, 0), 0), ((11,), 11), ((12, 11), 11), ((-1,), -1), ((-1, -7, 0), -7),
                            ((GREAT, 11), 11), ((-GREAT, 0), -GREAT), ((11, 1), 1)):
            # Wrong covers of wires below do not count.
            bent = {**RIGHT, 5: cover, **{key: cover for key in keys}}
            self.assertEqual(told(judge, NET, PUBLIC, bent), ("NoWire", {"wire": least}))

    def test_weighings_that_are_not_allowed_come_before_keys(self):
        for covers in ({}, {2: some_cover(FAR, 1)}, {0: some_cover(FAR, 1)}, {99: some_cover(FAR, 1)}):
            found = told(judge, FAR_NET, FAR_PUBLIC, covers)
            self.assertEqual(found, ("NotAllowed", {"wire": 4, "row": (0, 0)}))

    def test_unlike_sizes_come_first(self):
        for one, two in each_other_sizes():
            for wire in (2, 3, 0, 99):
                covers = {4: some_cover(one, 1), wire: some_cover(two, 1)}
                self.assertEqual(told(judge, FAR_NET, drawn(one, 3)[1], covers), ("Unlike", {}))


class Touching(unittest.TestCase):
    def test_touches_of_runners(self):
        for order in ([5, 6, 7, 8, 9, 10], [10, 6, 5, 7], (9,), []):
            draws = Made(4)
            runner = Runner(NET, PUBLIC, [KEY.fresh(1, draws=draws) for _ in range(3)])
            runner.run(order=order)
            found = touches_of(NET, USUAL, order)
            self.assertIsInstance(found, list)
            self.assertEqual(found, runner.touches())

    def test_touches_by_hand(self):
        net = Net(0, [(NOT, (0,)), (NOT, (2,))], [])
        sizes = Sizes(2, 4, 256, 2, 0)
        behind = [("select", 0), ("select", 1)] + [("lead", j, i) for j in range(4) for i in range(2)]
        self.assertEqual(touches_of(net=net, sizes=sizes, order=(3, 2)),
                         [("weigh", 3)] + behind + [("weigh", 2)] + behind)

    def test_whether_sources_are_done_is_not_asked(self):
        self.assertEqual([touch for touch in touches_of(NET, USUAL, [8, 5]) if touch[0] == "weigh"],
                         [("weigh", 8), ("weigh", 5)])
        # Whether the weighings are allowed is not asked either.
        self.assertEqual(len(touches_of(FAR_NET, FAR, [4])), 19)

    def test_the_list_is_new(self):
        order = [5, 6]
        touches_of(NET, USUAL, order).clear()
        self.assertEqual([order, len(touches_of(NET, USUAL, order))], [[5, 6], 38])

    def test_what_is_refused(self):
        for wrong in NO_ORDERS:
            found = told(touches_of, NET, USUAL, wrong)
            self.assertEqual(found, ("NoWire", {"wire": wrong}))
            self.assertIs(found[1]["wire"], wrong)
        for wrong in NO_ITEMS:
            for order in ([wrong], [8, wrong, None], (10, 5, wrong)):
                found = told(touches_of, NET, USUAL, order)
                self.assertEqual(found, ("NoWire", {"wire": wrong}))
                self.assertIs(found[1]["wire"], wrong)


if __name__ == "__main__":
    unittest.main()
