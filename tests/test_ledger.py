"""Promise 29: the ledger's bounds against noises under a key, with promise 2 for it."""

import random
import unittest

from helpers import GREAT, MANY_PLACES, MODEST, NO_NUMBERS, TINY, USUAL, drawn, told
from veiledgates.draws import Listed, Made
from veiledgates.keys import Key
from veiledgates.ledger import Ledger
from veiledgates.sizes import Sizes
from veiledgates.weighings import Weighing, standard, weighed, weighing_of

AND, XOR, MORE, SAME = standard("and"), standard("xor"), standard("more"), standard("same")
NO_NAMES = ["", "A", "abcdefg", "a1", "a b", "a-", "_", " a", "a\n", "\u00e9", 0, 1, GREAT, b"a", ("a",), ["a"]] + [
    value for value in NO_NUMBERS if value != "a"]


def a_ledger(sizes=USUAL):
    ledger = Ledger(sizes)
    ledger.fresh("a")
    ledger.fixed("zero")
    ledger.summed("sum", [2, -1], ["a", "a"])
    return ledger


def state(ledger):
    return [ledger.sizes, ledger.names(), [ledger.bound(name) for name in ledger.names()],
            [ledger.is_sure(name) for name in ledger.names()], repr(ledger)]


def rows(many):
    return [tuple((at >> k) & 1 for k in reversed(range(many))) for at in range(2 ** many)]


def first_row(sizes, weighing, total):
    """The first row for which the inequality is false, or None."""
    q = sizes.modulus
    for row in rows(len(weighing.weights())):
        if not 8 * sizes.ring * total + 2 * q * (sizes.length + 1) < q * weighing.margin(row) * sizes.ring:
            return row
    return None


class Bounds(unittest.TestCase):
    def test_bounds_by_hand(self):
        for sizes in (USUAL, Sizes(3, 16, 4, 8, 5), Sizes(8, 32, 256, 3, 1000)):
            ledger = Ledger(sizes)
            e = sizes.spread
            added = sizes.length * sizes.places * (sizes.base // 2) * e
            self.assertIsNone(ledger.fresh("a"))
            self.assertIsNone(ledger.fixed("b"))
            self.assertIsNone(ledger.led("c", "a"))
            self.assertIsNone(ledger.led("d", "c"))
            self.assertIsNone(ledger.led("e", "b"))
            self.assertIsNone(ledger.summed("f", [3, -2, 5], ["a", "c", "b"]))
            self.assertIsNone(ledger.summed("g", (-1, 0, 1), ("f", "d", "f")))
            self.assertIsNone(ledger.summed("h", [], []))
            wanted = [e, 0, e + added, e + 2 * added, added, 3 * e + 2 * (e + added), 2 * (5 * e + 2 * added), 0]
            self.assertEqual([ledger.bound(name) for name in "abcdefgh"], wanted)
            self.assertEqual(ledger.names(), list("abcdefgh"))

    def test_weighed_names_have_the_limit(self):
        ledger = Ledger(USUAL)
        ledger.fresh("a")
        ledger.fixed("b")
        self.assertIsNone(ledger.weighed("c", AND, ["a", "b"]))
        self.assertIsNone(ledger.weighed("d", MORE, ("c", "c", "a")))
        self.assertIsNone(ledger.weighed("e", SAME, ["b"]))
        self.assertEqual([ledger.bound(name) for name in "cde"], [USUAL.limit] * 3)

    def test_great_weights(self):
        ledger = a_ledger()
        ledger.summed("great", [GREAT, -GREAT], ["a", "a"])
        self.assertEqual([ledger.bound("great"), ledger.is_sure("great")], [2 * GREAT, False])

    def test_arguments_by_name(self):
        ledger = Ledger(sizes=USUAL)
        ledger.fresh(name="a")
        ledger.fixed(name="b")
        ledger.led(name="c", source="a")
        ledger.summed(name="d", weights=[1], sources=["a"])
        ledger.weighed(name="e", weighing=SAME, sources=["a"])
        self.assertEqual([ledger.bound(name="d"), ledger.is_sure(name="d"), ledger.names()], [1, True, list("abcde")])


class Noises(unittest.TestCase):
    def test_noises_under_keys(self):
        """Covers are made as the ledger is told; the noise of each is at most its bound."""
        for seed, sizes in enumerate((USUAL, MANY_PLACES, Sizes(2, 8, 16, 6, 1), Sizes(2, 8, 256, 4, 3))):
            chance = random.Random(seed)
            keys = [drawn(sizes, 5), drawn(sizes, 6)]
            # The greatest noises, and made ones.
            for draws in (Made(seed), Listed([GREAT, 12345, 777777777, 3], [sizes.spread, -sizes.spread]),
                          Listed([987654321987654321, -5, 31337], [sizes.spread])):
                self.made_as_told(sizes, keys, draws, chance)

    def made_as_told(self, sizes, keys, draws, chance):
        ledger, known = Ledger(sizes), {}
        for at in range(30):
            name = "n" + "abcdefghij"[at // 10] + "abcdefghij"[at % 10]
            way = chance.randrange(5) if known else chance.randrange(2)
            at_key = chance.randrange(2)
            key, public = keys[at_key]
            own = [other for other in known if known[other][1] == at_key]
            if way == 0:
                bit = chance.randrange(2)
                ledger.fresh(name)
                known[name] = (key.fresh(bit, draws=draws), at_key, 1 if bit else 7)
            elif way == 1 or not own:
                bit = chance.randrange(2)
                ledger.fixed(name)
                known[name] = (key.fresh(bit, draws=Listed([0], [0])), at_key, 1 if bit else 7)
            elif way == 2:
                source = chance.choice(sorted(known))
                cover, old, level = known[source]
                switch = key.switch_from(keys[old][0].bits(), draws=draws)
                ledger.led(name, source)
                known[name] = (switch.moved(cover), at_key, level)
            elif way == 3:
                weights = [chance.randrange(-3, 4) for _ in range(chance.randrange(1, 4))]
                sources = [chance.choice(own) for _ in weights]
                ledger.summed(name, weights, sources)
                cover = sum((known[s][0] * w for w, s in zip(weights[1:], sources[1:])), start=known[sources[0]][0] *
                            weights[0])
                known[name] = (cover, at_key, sum(w * known[s][2] for w, s in zip(weights, sources)) % 8)
            else:
                bits = [other for other in own if known[other][2] in (1, 7)]
                weighing = chance.choice(MODEST)
                if not bits or not weighing.allowed(sizes):
                    continue
                sources = [chance.choice(bits) for _ in weighing.weights()]
                if told(ledger.weighed, name, weighing, sources) is None:
                    row = [1 if known[s][2] == 1 else 0 for s in sources]
                    known[name] = (weighed(public, weighing, [known[s][0] for s in sources]), at_key,
                                   1 if weighing.answer(row) else 7)
                else:
                    continue
            cover, at_key, level = known[name]
            self.assertLessEqual(keys[at_key][0].noise_at(cover, level), ledger.bound(name))
        self.assertEqual(ledger.names(), list(known))

    def test_bounds_are_reached(self):
        """Draws of the greatest noises reach the bounds of fresh covers and sums."""
        sizes = Sizes(2, 8, 256, 3, 7)
        key, ledger = Key(sizes, [1, 0], [0] * 8), Ledger(sizes)
        draws = Listed([1, 2, 3], [7])
        ledger.fresh("a")
        ledger.summed("b", [2, 3], ["a", "a"])
        cover = key.fresh(1, draws=draws)
        self.assertEqual(key.noise_at(cover, 1), ledger.bound("a"))
        self.assertEqual(key.noise_at(2 * cover + 3 * cover, 5), ledger.bound("b"))


class Refusing(unittest.TestCase):
    def test_just_fulfilled_and_just_broken(self):
        for sizes in (USUAL, Sizes(2, 8, 256, 3, 1), Sizes(1, 8, 16, 5, 1), Sizes(3, 16, 4, 8, 1)):
            for weighing in (AND, XOR, MORE, SAME, Weighing(2, shift=1), Weighing(-1, 2),
                             weighing_of([1, -1, 1, -1], shift=1), Weighing(3, 2, -2, shift=2)):
                weights, q = weighing.weights(), sizes.modulus
                d = min(weighing.margin(row) for row in rows(len(weights)))
                # The greatest bound of the first source for which 8 N T < q d N - 2 q (n + 1), with T from it alone.
                most = (q * d * sizes.ring - 2 * q * (sizes.length + 1) - 1) // (8 * sizes.ring * abs(weights[0]))
                for bound in (most, most + 1):
                    ledger = Ledger(sizes)
                    ledger.fresh("one")
                    ledger.fixed("zero")
                    ledger.summed("first", [bound], ["one"])
                    row = first_row(sizes, weighing, bound * abs(weights[0]))
                    self.assertIs(row is None, bound == most)
                    found = told(ledger.weighed, "new", weighing, ["first"] + ["zero"] * (len(weights) - 1))
                    self.assertEqual(found, None if row is None else ("NotAllowed", {"wire": None, "row": row}))
                    self.assertIs("new" in ledger, row is None)

    def test_the_edge_is_reached(self):
        # Here q d N - 2 q (n + 1) is a multiple of 8 N, and so T may just not be equal.
        ledger = Ledger(USUAL)
        ledger.fresh("a")
        edge = (USUAL.modulus * 8 - 6 * USUAL.modulus) // 64
        ledger.summed("below", [edge - 1], ["a"])
        ledger.summed("at", [edge], ["a"])
        self.assertIsNone(told(ledger.weighed, "b", SAME, ["below"]))
        self.assertEqual(told(ledger.weighed, "c", SAME, ["at"]), ("NotAllowed", {"wire": None, "row": (0,)}))
        self.assertEqual(told(ledger.weighed, "c", Weighing(1, 1, shift=-1), ["below", "a"]),
                         ("NotAllowed", {"wire": None, "row": (0, 0)}))

    def test_the_first_row(self):
        ledger = Ledger(USUAL)
        ledger.fixed("z")
        # Rows without an answer have the margin 0, and are refused whatever the bounds are.
        for weighing in (Weighing(1, 1), Weighing(2, 1, shift=1), Weighing(1, shift=1), Weighing(1, shift=3)):
            row = [row for row in rows(len(weighing.weights())) if weighing.margin(row) == 0][0]
            found = told(ledger.weighed, "a", weighing, ["z"] * len(row))
            self.assertEqual(found, ("NotAllowed", {"wire": None, "row": row}))
            self.assertIsInstance(found[1]["row"], tuple)

    def test_bounds_count_instead_of_the_limit(self):
        # The sizes do not allow the weighing, but fresh covers have less noise than the limit.
        far = Sizes(2, 8, 65536, 2, 26)
        self.assertFalse(AND.allowed(far))
        ledger = Ledger(far)
        ledger.fresh("a")
        ledger.weighed("b", AND, ["a", "a"])
        self.assertEqual(told(ledger.weighed, "c", AND, ["b", "b"]), ("NotAllowed", {"wire": None, "row": (0, 0)}))
        ledger.weighed("d", AND, ["b", "a"])
        self.assertEqual([ledger.bound("b"), ledger.bound("d")], [far.limit] * 2)

    def test_sure_and_unsure(self):
        for sizes in (USUAL, Sizes(2, 8, 256, 3, 1), Sizes(1, 4, 16, 2, 1)):
            ledger = Ledger(sizes)
            ledger.fresh("a")
            ledger.summed("below", [-(sizes.modulus // 8 - 1)], ["a"])
            ledger.summed("at", [sizes.modulus // 8], ["a"])
            self.assertEqual([ledger.bound("below"), ledger.bound("at")], [sizes.modulus // 8 - 1, sizes.modulus // 8])
            self.assertIs(ledger.is_sure("below"), True)
            self.assertIs(ledger.is_sure("at"), False)


class Names(unittest.TestCase):
    def calls(self, ledger):
        """Ways to enter a name."""
        return [ledger.fresh, ledger.fixed, lambda name: ledger.led(name, "x"),
                lambda name: ledger.summed(name, [1], ["x"]), lambda name: ledger.weighed(name, Weighing(1, 1), ["x", "y"])]

    def test_values_that_are_no_names(self):
        ledger = a_ledger()
        before = state(ledger)
        for wrong in NO_NAMES:
            for call in self.calls(ledger):
                found = told(call, wrong)
                self.assertEqual(found, ("InvalidName", {"value": wrong}))
                self.assertIs(found[1]["value"], wrong)
        self.assertEqual(state(ledger), before)

    def test_names_that_are_there(self):
        ledger = a_ledger()
        before = state(ledger)
        for name in ("a", "zero", "sum"):
            for call in self.calls(ledger):
                self.assertEqual(told(call, name), ("Twice", {"name": name}))
        self.assertEqual(state(ledger), before)

    def test_sources_that_are_not_there(self):
        ledger = a_ledger()
        before = state(ledger)
        for wrong in NO_NAMES + ["b", "abcdef", "new"]:
            calls = [lambda: ledger.led("new", wrong), lambda: ledger.summed("new", [1, 2, 3], ["a", wrong, "c"]),
                     lambda: ledger.summed("new", [1, 0], ("a", wrong)),
                     # A weighing that is not total is refused behind the names.
                     lambda: ledger.weighed("new", Weighing(1, 1), ["a", wrong]),
                     lambda: ledger.weighed("new", MORE, (wrong, "c", "a")), lambda: ledger.bound(wrong),
                     lambda: ledger.is_sure(wrong)]
            for call in calls:
                found = told(call)
                self.assertEqual(found, ("NoName", {"name": wrong}))
                self.assertIs(found[1]["name"], wrong)
        self.assertEqual(state(ledger), before)

    def test_what_is_in_a_ledger(self):
        ledger = a_ledger()
        for name in ("a", "zero", "sum"):
            self.assertIs(name in ledger, True)
        for value in NO_NAMES + ["b", "abcdef", USUAL, ledger]:
            self.assertIs(value in ledger, False)

    def test_lists_are_new(self):
        ledger = a_ledger()
        names = ledger.names()
        ledger.fresh("b")
        self.assertEqual(names, ["a", "zero", "sum"])
        ledger.names().clear()
        self.assertEqual(ledger.names(), ["a", "zero", "sum", "b"])
        weights, sources = [1, 2], ["a", "b"]
        ledger.summed("c", weights, sources)
        self.assertEqual([weights, sources], [[1, 2], ["a", "b"]])
        weights[0], sources[1] = 99, "c"
        self.assertEqual(ledger.bound("c"), 3)

    def test_reprs_and_sizes(self):
        self.assertEqual([repr(Ledger(TINY)), repr(a_ledger())], ["Ledger(0 names)", "Ledger(3 names)"])
        self.assertEqual([Ledger(TINY).sizes, a_ledger().sizes, Ledger(TINY).names()], [TINY, USUAL, []])

    def test_twins(self):
        ledger = a_ledger()
        twin = ledger.twin()
        self.assertIsInstance(twin, Ledger)
        before = state(ledger)
        self.assertEqual(state(twin), before)
        twin.fresh("b")
        self.assertEqual(state(ledger), before)
        ledger.fixed("b")
        self.assertEqual([twin.bound("b"), ledger.bound("b"), repr(twin)], [1, 0, "Ledger(4 names)"])


if __name__ == "__main__":
    unittest.main()
