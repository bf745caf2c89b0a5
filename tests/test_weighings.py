"""Promises 3, 14, 15, 16, 17 and 18: weighings, in plain and on covers, with promise 2 for them."""

import itertools
import unittest

from helpers import (GREAT, MANY_PLACES, NO_NUMBERS, TINY, USUAL, drawn, each_other_sizes, row_of, some_cover, told)
from veiledgates.covers import Cover
from veiledgates.draws import Made
from veiledgates.keys import Key
from veiledgates.refreshing import refreshed
from veiledgates.sizes import Sizes
from veiledgates.weighings import Weighing, standard, weighed, weighing_of, weighted_sum

WORDS = {
    "same": ([1], 0, lambda row: row[0]),
    "and": ([1, 1], -1, all),
    "or": ([1, 1], 1, any),
    "xor": ([2, 2], 2, lambda row: row[0] != row[1]),
    "more": ([1, 1, 1], 0, lambda row: sum(row) >= 2),
    "odd": ([-2, -2, -2], 0, lambda row: sum(row) % 2 == 1),
}


def rows(many):
    return list(itertools.product((0, 1), repeat=many))


def level_of(weights, shift, row):
    return (sum(w if bit else -w for w, bit in zip(weights, row)) + shift) % 8


def answer_of(level):
    return {1: 1, 2: 1, 3: 1, 5: 0, 6: 0, 7: 0}.get(level)


def margin_of(level):
    return {0: 0, 4: 0, 2: 2, 6: 2}.get(level, 1)


def many_weighings():
    """The weights and shifts of many weighings: all small ones, and some at the edges."""
    choices = [w for w in range(-3, 4) if w]
    small = [weights for many in (1, 2) for weights in itertools.product(choices, repeat=many)]
    small += [(1, -1, 2), (2, 2, -2), (3, 3, 3), (1, 1, 1, 1), (-3, 3, -3, 3), (2, -4, 2, 4), (12,), (-12,), (9, -3),
              (1, 1, 10), (6, 6), (-4, -4, -4), (9, 1, -1, 1)]
    return [(weights, shift) for weights in small for shift in range(-8, 9)]


def cover_with(key, bit, noise):
    """A cover that stands for a bit with just a noise, and with some mask."""
    cover = some_cover(key.sizes, 3 * bit + noise % 5)
    wanted = key.sizes.eighth if bit else -key.sizes.eighth
    return cover + Cover(key.sizes, [0] * key.sizes.length, wanted + noise - key.phase(cover))


def first_refused(weights, shift, sizes):
    q, total = sizes.modulus, sum(map(abs, weights))
    for row in rows(len(weights)):
        d = margin_of(level_of(weights, shift, row))
        if not 8 * total * sizes.limit * sizes.ring + 2 * q * (sizes.length + 1) < q * d * sizes.ring:
            return row
    return None


class Making(unittest.TestCase):
    def test_attributes(self):
        weighing = Weighing(2, -1, 3, shift=-8)
        self.assertEqual([weighing.weights(), weighing.shift, weighing.total], [[2, -1, 3], -8, 6])
        self.assertEqual([Weighing(1).shift, Weighing(1).total, Weighing(-12, shift=8).total], [0, 1, 12])
        self.assertIsInstance(vars(Weighing)["total"], property)
        self.assertEqual(Weighing(3, 3, 3, 3).weights(), [3, 3, 3, 3])

    def test_lists_are_copied(self):
        weights = [1, 2]
        weighing = weighing_of(weights)
        weights[0] = 3
        weighing.weights()[1] = 5
        self.assertEqual([weighing.weights(), weighing.table()], [[1, 2], Weighing(1, 2).table()])

    def test_number_of_weights(self):
        self.assertEqual(told(Weighing), ("BadWeighing", {"at": -1}))
        self.assertEqual(told(Weighing, 1, 1, 1, 1, 1), ("BadWeighing", {"at": -1}))
        self.assertEqual(told(Weighing, None, 0, 99, 1, 1, shift=9), ("BadWeighing", {"at": -1}))
        self.assertEqual(told(weighing_of, [1] * 5000), ("BadWeighing", {"at": -1}))
        self.assertEqual(told(weighing_of, []), ("BadWeighing", {"at": -1}))

    def test_wrong_weights(self):
        for wrong in [0] + NO_NUMBERS:
            for at in range(4):
                row = [13] * at + [wrong] * (4 - at)
                self.assertEqual(told(Weighing, *row, shift=None), ("BadWeighing", {"at": at}))
                self.assertEqual(told(weighing_of, tuple(row), shift=99), ("BadWeighing", {"at": at}))

    def test_too_great_totals(self):
        for row in ([13], [-13], [6, 7], [-6, -7], [4, 4, 5], [3, 3, 3, 4], [GREAT], [1, -GREAT]):
            self.assertEqual(told(Weighing, *row), ("TooMany", {"most": 12}))
            self.assertEqual(told(Weighing, *row, shift=None), ("TooMany", {"most": 12}))
        for row in ([12], [-12], [6, -6], [4, 4, 4], [-3, 3, 3, -3]):
            self.assertEqual(Weighing(*row).total, 12)

    def test_wrong_shifts(self):
        for wrong in [9, -9, GREAT, -GREAT] + NO_NUMBERS:
            found = told(Weighing, 1, shift=wrong)
            self.assertEqual(found, ("InvalidNumber", {"value": wrong}))
            self.assertIs(found[1]["value"], wrong)
            self.assertEqual(told(weighing_of, [1], shift=wrong), found)
        self.assertEqual([Weighing(1, shift=shift).shift for shift in (-8, 0, 8)], [-8, 0, 8])

    def test_weights_that_are_no_list(self):
        for wrong in [None, True, 1, "1", {}, {1: 1}, USUAL, Weighing(1)]:
            self.assertEqual(told(weighing_of, wrong), ("BadWeighing", {"at": -1}))
            self.assertEqual(told(weighing_of, wrong, shift=None), ("BadWeighing", {"at": -1}))

    def test_weighing_of_a_list(self):
        self.assertEqual(weighing_of([1, -2]), Weighing(1, -2))
        self.assertEqual(weighing_of(weights=(1, -2), shift=3), Weighing(1, -2, shift=3))

    def test_equality_and_repr(self):
        one = Weighing(1, -2, shift=3)
        self.assertIs(one == Weighing(1, -2, shift=3), True)
        self.assertIs(one != Weighing(1, -2, shift=3), False)
        # Weighings with equal tables and levels are not equal by that.
        for other in (Weighing(-2, 1, shift=3), Weighing(1, -2, shift=-5), Weighing(1, -2), Weighing(1), Weighing(1, 2),
                      None, True, (1, -2), [1, -2], "Weighing(1, -2, shift=3)", USUAL):
            self.assertIs(one == other, False)
            self.assertIs(one != other, True)
        self.assertEqual([repr(Weighing(1, 1, shift=-1)), repr(Weighing(-2)), repr(Weighing(1, 2, 3, -4, shift=8))],
                         ["Weighing(1, 1, shift=-1)", "Weighing(-2, shift=0)", "Weighing(1, 2, 3, -4, shift=8)"])


class Levels(unittest.TestCase):
    def test_levels_answers_and_margins(self):
        for weights, shift in many_weighings():
            weighing = Weighing(*weights, shift=shift)
            levels = [level_of(weights, shift, row) for row in rows(len(weights))]
            for row, level in zip(rows(len(weights)), levels):
                self.assertEqual([weighing.level(row), weighing.answer(row), weighing.margin(row)],
                                 [level, answer_of(level), margin_of(level)])
            self.assertEqual(weighing.table(), tuple(map(answer_of, levels)))
            self.assertIsInstance(weighing.table(), tuple)
            self.assertIs(weighing.is_total(), all(level not in (0, 4) for level in levels))
            self.assertIs(weighing.is_modest(), all(weighing.total <= 3 * margin_of(level) for level in levels))

    def test_rows_may_be_lists(self):
        weighing = Weighing(1, 2, -3, shift=1)
        for row in rows(3):
            self.assertEqual([weighing.level(list(row)), weighing.answer(list(row)), weighing.margin(row=list(row))],
                             [weighing.level(row=row), weighing.answer(row=row), weighing.margin(row)])

    def test_all_levels(self):
        weighing = [Weighing(1, shift=shift) for shift in range(-8, 9)]
        self.assertEqual([one.level((1,)) for one in weighing], [1, 2, 3, 4, 5, 6, 7, 0, 1, 2, 3, 4, 5, 6, 7, 0, 1])
        self.assertEqual([one.answer((1,)) for one in weighing[:8]], [1, 1, 1, None, 0, 0, 0, None])
        self.assertEqual([one.margin((1,)) for one in weighing[:8]], [1, 2, 1, 0, 1, 2, 1, 0])

    def test_the_first_weight_changes_slowest(self):
        self.assertEqual(Weighing(2, 1).table(), (0, 0, 1, 1))
        self.assertEqual(Weighing(1, 2).table(), (0, 1, 0, 1))
        self.assertEqual(Weighing(1, 1, shift=0).table(), (0, None, None, 1))

    def test_wrong_rows(self):
        weighing = Weighing(1, 2, 3)
        for call in (weighing.level, weighing.answer, weighing.margin):
            for wrong in [None, True, 1, "010", {0: 1}, [], (), (0, 1), [0, 1, 0, 1], USUAL]:
                self.assertEqual(told(call, wrong), ("BadBits", {"at": -1}))
            for at in range(3):
                for wrong in [2, -1, GREAT] + NO_NUMBERS:
                    self.assertEqual(told(call, [1] * at + [wrong] * (3 - at)), ("BadBits", {"at": at}))

    def test_total_weighings_by_hand(self):
        self.assertIs(Weighing(1, 1).is_total(), False)
        self.assertIs(Weighing(1, 1).is_modest(), False)
        self.assertIs(Weighing(3, shift=0).is_modest(), True)
        self.assertIs(Weighing(3, 1, shift=1).is_total(), True)
        self.assertIs(Weighing(3, 1, shift=1).is_modest(), False)
        self.assertIs(Weighing(2, 4, shift=0).is_modest(), True)
        self.assertIs(Weighing(2, 2, 4, shift=2).is_modest(), False)


class Standard(unittest.TestCase):
    def test_words(self):
        for word, (weights, shift, told_by) in WORDS.items():
            weighing = standard(word=word)
            self.assertEqual([weighing.weights(), weighing.shift], [weights, shift])
            self.assertEqual(weighing.table(), tuple(int(told_by(row)) for row in rows(len(weights))))
            self.assertTrue(weighing.is_modest())

    def test_negated_weights_stay_modest(self):
        for weights, shift, _ in WORDS.values():
            for signs in itertools.product((1, -1), repeat=len(weights)):
                self.assertTrue(weighing_of([s * w for s, w in zip(signs, weights)], shift=shift).is_modest())

    def test_a_negated_weight_takes_the_other_bit(self):
        for weights, shift, told_by in WORDS.values():
            for signs in itertools.product((1, -1), repeat=len(weights)):
                weighing = weighing_of([s * w for s, w in zip(signs, weights)], shift=shift)
                for row in rows(len(weights)):
                    taken = [bit if sign == 1 else 1 - bit for bit, sign in zip(row, signs)]
                    self.assertEqual(weighing.answer(row), int(told_by(taken)))

    def test_other_words(self):
        for wrong in ["", "not", "And", "and ", "nand", " or", "samex"] + [value for value in NO_NUMBERS if value != ""]:
            found = told(standard, wrong)
            self.assertEqual(found, ("NoName", {"name": wrong}))
            self.assertIs(found[1]["name"], wrong)


class Allowing(unittest.TestCase):
    def test_by_the_inequality(self):
        sizes = [TINY, USUAL, MANY_PLACES, Sizes(2, 8, 65536, 2, 25), Sizes(2, 8, 65536, 2, 26), Sizes(1, 32, 256, 4, 9),
                 Sizes(8, 32, 65536, 8, 1000), Sizes(3, 8, 16, 6, 0), Sizes(3, 4, 16, 6, 0), Sizes(1, 4, 4, 8, 9)]
        for one in sizes:
            for weights, shift in many_weighings():
                weighing = Weighing(*weights, shift=shift)
                row = first_refused(weights, shift, one)
                self.assertEqual(weighing.first_refused(sizes=one), row)
                self.assertIs(weighing.allowed(sizes=one), row is None)

    def test_just_fulfilled_and_just_broken_by_the_spread(self):
        # The greatest spread that still allows, for some sizes, by the inequality alone.
        for weights, shift in (((1, 1), -1), ((1, 1), 1), ((2, 2), 2), ((1, 1, 1), 0), ((-2, -2, -2), 0), ((1,), 0)):
            for numbers in ((2, 8, 65536, 2), (1, 16, 256, 4), (3, 32, 16, 8), (1, 8, 4096, 3)):
                spreads = [e for e in range(1001) if first_refused(weights, shift, Sizes(*numbers, e)) is None]
                most = spreads[-1]
                self.assertEqual(spreads, list(range(most + 1)))
                self.assertTrue(Weighing(*weights, shift=shift).allowed(Sizes(*numbers, most)))
                if most < 1000:
                    self.assertFalse(Weighing(*weights, shift=shift).allowed(Sizes(*numbers, most + 1)))

    def test_just_broken_by_equality(self):
        # Without noise both sides are equal if 2 (n + 1) = d N.
        for length, ring in ((1, 4), (3, 8), (7, 16)):
            self.assertEqual(Weighing(1).first_refused(Sizes(length, ring, 65536, 2, 0)), (0,))
            self.assertTrue(Weighing(2).allowed(Sizes(length, ring, 65536, 2, 0)))
        for length, ring in ((3, 4), (7, 8)):
            self.assertEqual(Weighing(2).first_refused(Sizes(length, ring, 65536, 2, 0)), (0,))
        for length, ring in ((2, 8), (6, 16)):
            self.assertTrue(Weighing(1).allowed(Sizes(length, ring, 65536, 2, 0)))

    def test_equality_with_noise(self):
        # With n = 1, N = 16, B = 16, l = 4 and S = 1 both sides are equal if e is 4.
        equal = Sizes(1, 16, 16, 4, 4)
        self.assertEqual(8 * equal.limit * 16 + 4 * equal.modulus, equal.modulus * 16)
        for weight in (1, -1):
            self.assertEqual(Weighing(weight).first_refused(equal), (0,))
            self.assertTrue(Weighing(weight).allowed(Sizes(1, 16, 16, 4, 3)))
            self.assertFalse(Weighing(weight).allowed(Sizes(1, 16, 16, 4, 5)))

    def test_the_first_row_that_is_refused(self):
        # The row 0 1 has the level 2, and the others have odd levels or none.
        self.assertEqual(Weighing(1, 1).first_refused(USUAL), (0, 1))
        self.assertEqual(Weighing(1, 1).first_refused(Sizes(7, 4, 65536, 2, 0)), (0, 0))
        self.assertEqual(Weighing(1, 1, shift=2).first_refused(USUAL), (0, 0))
        self.assertEqual(Weighing(3, 1, shift=-1).first_refused(Sizes(2, 8, 65536, 2, 20)), (0, 0))

    def test_weighings_that_are_not_total_are_never_allowed(self):
        for weights, shift in many_weighings():
            weighing = Weighing(*weights, shift=shift)
            if not weighing.is_total():
                for sizes in (USUAL, Sizes(1, 32, 65536, 8, 0)):
                    self.assertFalse(weighing.allowed(sizes))

    def test_roomy_sizes_allow_modest_weighings(self):
        numbers = itertools.product((1, 2, 8), (4, 8, 32), (64, 65536), (2, 5), (0, 1, 16, 100))
        roomy = [sizes for sizes in (Sizes(*five) for five in numbers) if sizes.roomy]
        self.assertGreater(len(roomy), 10)
        for weights, shift in many_weighings():
            weighing = Weighing(*weights, shift=shift)
            if weighing.is_modest():
                self.assertTrue(all(weighing.allowed(sizes) for sizes in roomy))

    def test_sizes_that_allow_have_a_small_limit(self):
        for e in range(0, 1001, 50):
            for numbers in ((2, 8, 65536, 2), (1, 4, 16, 3), (8, 32, 16, 8), (1, 32, 4, 8)):
                sizes = Sizes(*numbers, e)
                for weighing in (Weighing(1), Weighing(2), Weighing(-2)):
                    if weighing.allowed(sizes):
                        self.assertLess(sizes.limit, sizes.eighth)


class Summing(unittest.TestCase):
    def test_sums_by_their_words(self):
        for sizes in (TINY, USUAL, MANY_PLACES):
            q = sizes.modulus
            for weights, shift in many_weighings()[::7]:
                covers = [some_cover(sizes, seed) for seed in range(len(weights))]
                found = weighted_sum(Weighing(*weights, shift=shift), covers)
                wanted = [sum(w * a for w, a in zip(weights, column)) % q for column in zip(*map(row_of, covers))]
                wanted[-1] = (wanted[-1] + shift * (q // 8)) % q
                self.assertEqual(row_of(found), wanted)
                self.assertEqual(found.sizes, sizes)
        covers = (some_cover(TINY, 1), some_cover(TINY, 2))
        self.assertEqual(weighted_sum(weighing=Weighing(1, 1), covers=covers), covers[0] + covers[1])

    def test_sums_of_weighings_that_are_not_allowed(self):
        cover = Cover.constant(TINY, 1)
        self.assertEqual(weighted_sum(Weighing(1, 1), [cover, cover]).body, 64)

    def test_levels_of_sums(self):
        key = Key(MANY_PLACES, [1, 0, 1], [0] * 16)
        for weights, shift in many_weighings()[::11]:
            for row in rows(len(weights)):
                covers = [cover_with(key, bit, at) for at, bit in enumerate(row)]
                weighing = Weighing(*weights, shift=shift)
                most = sum(abs(w) * at for at, w in enumerate(weights))
                self.assertLessEqual(key.noise_at(weighted_sum(weighing, covers), weighing.level(row)), most)

    def test_weighed_is_the_refreshed_sum(self):
        key, public = drawn(USUAL, 1)
        covers = [some_cover(USUAL, seed) for seed in range(3)]
        for word, (weights, _, _) in WORDS.items():
            row = covers[:len(weights)]
            found = weighed(public=public, weighing=standard(word), covers=tuple(row))
            self.assertEqual(found, refreshed(public, weighted_sum(standard(word), row)))

    def test_one_step_with_noises_of_the_limit(self):
        done = []
        for numbers in ((2, 8, 65536, 2, 25), (1, 4, 65536, 2, 3), (3, 16, 16, 6, 40), (2, 8, 65536, 2, 1),
                        (3, 8, 16, 6, 0), (8, 32, 256, 4, 200)):
            sizes = Sizes(*numbers)
            key, public = drawn(sizes, 2)
            for word in WORDS:
                weighing = standard(word)
                if first_refused(WORDS[word][0], WORDS[word][1], sizes) is not None:
                    continue
                done.append(word)
                for row in rows(len(weighing.weights())):
                    for noise in {-sizes.limit, 0, sizes.limit}:
                        found = weighed(public, weighing, [cover_with(key, bit, noise) for bit in row])
                        answer = weighing.answer(row)
                        self.assertLessEqual(key.noise_at(found, 1 if answer else 7), sizes.limit)
                        self.assertEqual(key.opened(found), answer)
        self.assertEqual(set(done), set(WORDS))
        self.assertGreater(len(done), 20)

    def test_exact_without_spread(self):
        sizes = Sizes(2, 8, 16, 6, 0)
        for bits in itertools.product((0, 1), repeat=2):
            key = Key(sizes, bits, [1, 0, 1, 1, 0, 0, 0, 1])
            public = key.public_tables(draws=Made(3))
            for word, (weights, _, told_by) in WORDS.items():
                for row in rows(len(weights)):
                    found = weighed(public, standard(word), [key.fresh(bit, draws=Made(4)) for bit in row])
                    self.assertEqual(key.noise_at(found, 1 if told_by(row) else 7), 0)

    def test_other_noises_than_the_limit(self):
        # With T as the sum of all absolute weights times the noises, as much noise as fits is harmless.
        key, public = drawn(USUAL, 5)
        q, ring, length = USUAL.modulus, USUAL.ring, USUAL.length
        for word in ("and", "or", "more", "xor"):
            weighing = standard(word)
            for row in rows(len(weighing.weights())):
                margin = min(weighing.margin(one) for one in rows(len(row)))
                most = (q * margin * ring - 2 * q * (length + 1) - 1) // (8 * ring)
                for sign in (1, -1):
                    covers = [cover_with(key, bit, 0) for bit in row]
                    covers[0] = cover_with(key, row[0], sign * (most // abs(weighing.weights()[0])))
                    found = weighed(public, weighing, covers)
                    self.assertLessEqual(key.noise_at(found, 1 if weighing.answer(row) else 7), USUAL.limit)

    def test_covers_that_are_no_list(self):
        key, public = drawn(USUAL, 1)
        cover = some_cover(USUAL, 1)
        for wrong in [None, True, 2, "ab", {}, {0: cover, 1: cover}, cover, [], (), [cover], [cover] * 3, [None], USUAL]:
            self.assertEqual(told(weighted_sum, standard("and"), wrong), ("BadCover", {"at": -1}))
            self.assertEqual(told(weighed, public, standard("and"), wrong), ("BadCover", {"at": -1}))

    def test_items_that_are_no_covers(self):
        key, public = drawn(USUAL, 1)
        cover = some_cover(USUAL, 1)
        for at in range(3):
            for wrong in NO_NUMBERS + [1, [cover], public, key, "0 0 0"]:
                row = [cover] * at + [wrong] * (3 - at)
                self.assertEqual(told(weighted_sum, standard("more"), row), ("BadCover", {"at": at}))
                self.assertEqual(told(weighed, public, standard("more"), tuple(row)), ("BadCover", {"at": at}))

    def test_covers_with_other_sizes(self):
        for sizes, other in each_other_sizes():
            for one, two in ((sizes, other), (other, sizes)):
                key, public = drawn(one, 1)
                mine, foreign = some_cover(one, 1), some_cover(two, 1)
                more = standard("more")
                self.assertEqual(told(weighted_sum, more, [mine, foreign, None]), ("BadCover", {"at": 1}))
                self.assertEqual(told(weighted_sum, more, [foreign, foreign, mine]), ("BadCover", {"at": 2}))
                self.assertEqual(told(weighted_sum, more, [foreign] * 3), None)
                self.assertEqual(told(weighed, public, more, [foreign] * 3), ("BadCover", {"at": 0}))
                self.assertEqual(told(weighed, public, more, [mine, mine, foreign]), ("BadCover", {"at": 2}))

    def test_weighings_that_are_not_allowed(self):
        far = Sizes(2, 8, 65536, 2, 26)
        key, public = drawn(far, 1)
        cover = some_cover(far, 1)
        self.assertEqual(told(weighed, public, standard("and"), [cover] * 2), ("NotAllowed", {"wire": None, "row": (0, 0)}))
        self.assertEqual(told(weighed, public, Weighing(1, 1), [cover] * 2), ("NotAllowed", {"wire": None, "row": (0, 1)}))
        self.assertEqual(told(weighed, public, standard("xor"), [cover] * 2), None)
        self.assertEqual(told(weighed, public, standard("and"), [cover, None]), ("BadCover", {"at": 1}))
        self.assertEqual(told(weighed, drawn(USUAL, 1)[1], Weighing(1, 1), [some_cover(USUAL, 1)] * 2),
                         ("NotAllowed", {"wire": None, "row": (0, 1)}))

    def test_arguments_stay(self):
        key, public = drawn(USUAL, 1)
        covers = [some_cover(USUAL, 1), some_cover(USUAL, 2)]
        before = [cover.text() for cover in covers]
        weighed(public, standard("and"), covers)
        self.assertEqual([cover.text() for cover in covers], before)


if __name__ == "__main__":
    unittest.main()
