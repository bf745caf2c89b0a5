"""Promises 6, 7, 8 and 22 for keys and what is drawn under them, with promise 2 for them."""

import itertools
import unittest

import slow
from helpers import (GREAT, MANY_PLACES, NO_NUMBERS, NO_STRINGS, TINY, USUAL, bent_texts, each_other_sizes, row_of,
                     rows_of, some_cover, told)
from veiledgates.covers import Cover
from veiledgates.draws import Listed, Made
from veiledgates.keys import Key
from veiledgates.polys import Poly
from veiledgates.rings import RingCover
from veiledgates.sizes import Sizes

SPREAD = Sizes(2, 4, 16, 2, 3)
ALL_SIZES = [TINY, USUAL, MANY_PLACES, SPREAD]


def plain_key(sizes):
    """A key whose bits are 1, 0, 1, 0 .. in s, and 1, 1, 0, 1, 1, 0 .. in z."""
    return Key(sizes, [1 - k % 2 for k in range(sizes.length)], [int(k % 3 < 2) for k in range(sizes.ring)])


def counting_draws():
    """Draws whose numbers tell their places: 1000, 1001 .. and the noises -3, -2 .. 3 over again."""
    return Listed(range_list(1000, 9000), range_list(-3, 4))


def range_list(least, end):
    return list(range(least, end))


def pairs_of(selector):
    return [tuple(rows_of(ring) for ring in selector.pair(at)) for at in range(selector.sizes.places)]


def covers_of(switch):
    return [[row_of(switch.cover(at, place)) for place in range(switch.sizes.places)] for at in range(switch.width)]


class Spy:
    """Draws that hold a copy of what others would hand out, to see how far those went."""

    def __init__(self, draws):
        self.draws, self.kept = draws, draws.twin()

    def untouched(self, sizes):
        one, other = self.draws.twin(), self.kept.twin()
        return [(one.residue(sizes), one.noise(sizes)) for _ in range(3)] == [
            (other.residue(sizes), other.noise(sizes)) for _ in range(3)]


class Making(unittest.TestCase):
    def test_attributes_and_lists(self):
        key = Key(USUAL, (1, 0), [1, 1, 0, 1, 1, 0, 1, 1])
        self.assertEqual([key.sizes, key.bits(), key.poly_bits()], [USUAL, [1, 0], [1, 1, 0, 1, 1, 0, 1, 1]])
        key = Key(sizes=TINY, bits=[0], poly_bits=(0, 0, 0, 1))
        self.assertEqual([key.bits(), key.poly_bits()], [[0], [0, 0, 0, 1]])
        self.assertIsInstance(Key(TINY, (1,), (1, 1, 1, 1)).bits(), list)

    def test_lists_are_copied(self):
        bits, poly_bits = [1, 0], [1, 0, 0, 0, 0, 0, 0, 0]
        key = Key(USUAL, bits, poly_bits)
        bits[0] = poly_bits[0] = 0
        key.bits()[1] = 1
        key.poly_bits()[1] = 1
        self.assertEqual([key.bits(), key.poly_bits()], [[1, 0], [1, 0, 0, 0, 0, 0, 0, 0]])
        key.bits().clear()
        self.assertEqual(key.text(), "key 2 8 65536 2 1\n1 0\n1 0 0 0 0 0 0 0\n")

    def test_wrong_bits(self):
        right = [0] * 8
        for wrong in [None, 1, "01", {0: 1, 1: 1}, [], (), [1], [1, 0, 1], USUAL, (1, 0, 1)]:
            self.assertEqual(told(Key, USUAL, wrong, right), ("BadBits", {"at": -1}), wrong)
            self.assertEqual(told(Key, USUAL, wrong, None), ("BadBits", {"at": -1}), wrong)
        for wrong in NO_NUMBERS + [2, -1, GREAT]:
            self.assertEqual(told(Key, USUAL, [wrong, wrong], right), ("BadBits", {"at": 0}))
            self.assertEqual(told(Key, USUAL, (1, wrong), [1]), ("BadBits", {"at": 1}))

    def test_wrong_poly_bits(self):
        for wrong in [None, 1, "01010101", [], [1], [1] * 7, (0,) * 9, [1] * 4]:
            self.assertEqual(told(Key, USUAL, [0, 1], wrong), ("BadBits", {"at": -1}), wrong)
        for at in range(8):
            for wrong in NO_NUMBERS + [2, -1, GREAT]:
                row = [1] * at + [wrong] * (8 - at)
                self.assertEqual(told(Key, USUAL, [0, 1], row), ("BadBits", {"at": at}))

    def test_equality(self):
        key = Key(TINY, [1], [1, 0, 0, 1])
        self.assertIs(key == Key(Sizes(1, 4, 16, 2, 0), (1,), (1, 0, 0, 1)), True)
        self.assertIs(key != Key(Sizes(1, 4, 16, 2, 0), (1,), (1, 0, 0, 1)), False)
        for other in (Key(TINY, [0], [1, 0, 0, 1]), Key(TINY, [1], [1, 0, 0, 0]), Key(TINY, [1], [0, 0, 0, 1])):
            self.assertIs(key == other, False)
            self.assertIs(key != other, True)
        for sizes, other in each_other_sizes():
            self.assertIs(plain_key(sizes) == plain_key(other), False)
        for other in (None, True, 1, key.text(), [1], (1,), TINY, Cover(TINY, [1], 1)):
            self.assertIs(key == other, False)
            self.assertIs(key != other, True)


class Drawing(unittest.TestCase):
    def test_keys_number_for_number(self):
        draws = Listed([0, 1, 3, 2, 255, 256, -1, 5, 6], [1, 2])
        key = Key.drawn(Sizes(2, 4, 16, 2, 2), draws=draws)
        # The bits of s come first; each residue is taken modulo q and then modulo 2.
        self.assertEqual([key.bits(), key.poly_bits()], [[0, 1], [1, 0, 1, 0]])
        self.assertEqual([draws.residue(TINY), draws.residue(TINY), draws.noise(SPREAD)], [255, 5, 1])

    def test_keys_from_a_seed(self):
        for sizes in ALL_SIZES:
            for seed in (0, 1, GREAT):
                draws, twin = Made(seed), Made(seed)
                key = Key.drawn(sizes=sizes, draws=draws)
                self.assertEqual((key.bits(), key.poly_bits()), slow.drawn_key(sizes, twin))
                self.assertEqual([draws.state, key.sizes], [twin.state, sizes])

    def test_covers_number_for_number(self):
        draws = Listed([10, 20, 30, 40, 50], [1, -2, 9])
        key = Key(SPREAD, [1, 1], [0, 0, 0, 0])
        self.assertEqual(row_of(key.cover_of(100, draws=draws)), [10, 20, (10 + 20 + 100 + 1) % 256])
        self.assertEqual(row_of(key.cover_of(number=-7, draws=draws)), [30, 40, (30 + 40 - 7 - 2) % 256])
        # A noise above the spread is held at it.
        self.assertEqual(row_of(Key(SPREAD, [0, 1], [0] * 4).cover_of(GREAT, draws=draws)),
                         [50, 10, (10 + GREAT + 3) % 256])

    def test_covers_under_all_keys(self):
        for sizes in ALL_SIZES:
            for bits in itertools.product((0, 1), repeat=sizes.length):
                key = Key(sizes, bits, [0] * sizes.ring)
                draws, twin = Made(6), Made(6)
                for number in (0, 1, -1, sizes.modulus // 8, sizes.modulus, GREAT, -GREAT):
                    cover = key.cover_of(number, draws=draws)
                    self.assertEqual(row_of(cover), slow.drawn_cover(sizes, bits, number, twin))
                    self.assertEqual([cover.sizes, draws.state], [sizes, twin.state])
                    self.assertLessEqual(abs(slow.centered(key.phase(cover) - number, sizes.modulus)), sizes.spread)

    def test_fresh_covers(self):
        for sizes in ALL_SIZES:
            key, eighth = plain_key(sizes), sizes.modulus // 8
            draws, twin = Made(5), Made(5)
            for bit in (0, 1, 1, 0):
                cover = key.fresh(bit=bit, draws=draws)
                wanted = slow.drawn_cover(sizes, key.bits(), eighth if bit else -eighth, twin)
                self.assertEqual(row_of(cover), wanted)
                self.assertEqual(key.opened(cover), bit)
                self.assertLessEqual(key.noise_at(cover, 1 if bit else 7), sizes.spread)
                self.assertEqual(draws.state, twin.state)

    def test_noises_reach_the_spread_exactly(self):
        key = plain_key(SPREAD)
        for noise in (-3, -1, 0, 2, 3):
            draws = Listed([7, 77, 177], [noise])
            for bit, level in ((1, 1), (0, 7)):
                cover = key.fresh(bit, draws=draws)
                self.assertEqual([key.phase(cover), key.noise_at(cover, level)], [(32 if bit else -32) + noise, abs(noise)])

    def test_ring_covers_of_zero_number_for_number(self):
        draws = Listed([1, 2, 3, 4, 5], [1, -1, 2, -2, 3])
        ring = Key(SPREAD, [0, 0], [0, 1, 0, 0]).ring_zero(draws=draws)
        self.assertEqual(rows_of(ring), ([1, 2, 3, 4], [(-4 + 1) % 256, 1 - 1, 2 + 2, 3 - 2]))
        self.assertEqual([draws.residue(SPREAD), draws.noise(SPREAD)], [5, 3])

    def test_ring_covers_of_zero_from_a_seed(self):
        for sizes in ALL_SIZES:
            key = plain_key(sizes)
            draws, twin = Made(8), Made(8)
            for _ in range(3):
                ring = key.ring_zero(draws=draws)
                self.assertEqual(rows_of(ring), slow.drawn_ring(sizes, key.poly_bits(), twin))
                self.assertEqual(draws.state, twin.state)
                self.assertLessEqual(key.ring_phase(ring).greatest(), sizes.spread)

    def test_selectors_number_for_number(self):
        sizes = Sizes(1, 4, 16, 2, 0)
        key = Key(sizes, [1], [0, 0, 0, 0])
        for bit in (0, 1):
            draws = Listed(range_list(100, 200), [0])
            pairs = pairs_of(key.selector_of(bit, draws=draws))
            rows = [[100 + 4 * k + j for j in range(4)] for k in range(4)]
            rows[0][0] += bit
            rows[2][0] += 16 * bit
            self.assertEqual(pairs, [((rows[0], [0] * 4), (rows[1], [bit, 0, 0, 0])),
                                     ((rows[2], [0] * 4), (rows[3], [16 * bit, 0, 0, 0]))])
            self.assertEqual(draws.residue(sizes), 116)

    def test_selectors_from_a_seed(self):
        for sizes in ALL_SIZES:
            key = plain_key(sizes)
            for bit in (0, 1):
                draws, twin = Made(9), Made(9)
                selector = key.selector_of(bit=bit, draws=draws)
                self.assertEqual(pairs_of(selector), slow.drawn_selector(sizes, key.poly_bits(), bit, twin))
                self.assertEqual([selector.sizes, draws.state], [sizes, twin.state])

    def test_switches_number_for_number(self):
        key = Key(SPREAD, [0, 0], [0, 0, 0, 0])
        draws = Listed([1, 2, 3, 4, 5, 6, 7, 8, 9], [1, 2, 3, -1, 0])
        switch = key.switch_from([1, 0], draws=draws)
        self.assertEqual(covers_of(switch), [[[1, 2, 1 + 1], [3, 4, 16 + 2]], [[5, 6, 3], [7, 8, 255]]])
        self.assertEqual([draws.residue(SPREAD), draws.noise(SPREAD)], [9, 0])

    def test_switches_from_a_seed(self):
        for sizes in ALL_SIZES:
            key = plain_key(sizes)
            for row in ([], [1], (0, 1, 1), [1, 0] * 16):
                draws, twin = Made(10), Made(10)
                switch = key.switch_from(bits=row, draws=draws)
                self.assertEqual(covers_of(switch), slow.drawn_switch(sizes, key.bits(), row, twin))
                self.assertEqual([switch.sizes, switch.width, draws.state], [sizes, len(row), twin.state])

    def test_switches_copy_their_rows(self):
        row = [1, 0]
        switch = plain_key(TINY).switch_from(row, draws=Made(1))
        row.append(1)
        row[0] = 0
        self.assertEqual(switch, plain_key(TINY).switch_from((1, 0), draws=Made(1)))

    def test_public_tables_from_a_seed(self):
        for sizes in ALL_SIZES:
            key = plain_key(sizes)
            draws, twin = Made(11), Made(11)
            public = key.public_tables(draws=draws)
            selectors, switch = slow.drawn_public(sizes, key.bits(), key.poly_bits(), twin)
            self.assertEqual([pairs_of(public.selector(at)) for at in range(sizes.length)], selectors)
            self.assertEqual(covers_of(public.switch), switch)
            self.assertEqual([public.sizes, public.switch.width, draws.state], [sizes, sizes.ring, twin.state])

    def test_public_tables_in_their_order(self):
        key = plain_key(SPREAD)
        draws, twin = counting_draws(), counting_draws()
        public = key.public_tables(draws=draws)
        self.assertEqual(public.selector(0), key.selector_of(1, draws=twin))
        self.assertEqual(public.selector(1), key.selector_of(0, draws=twin))
        self.assertEqual(public.switch, key.switch_from(key.poly_bits(), draws=twin))
        self.assertEqual([draws.residue(USUAL), draws.noise(USUAL)], [twin.residue(USUAL), twin.noise(USUAL)])

    def test_drawing_leaves_the_key_as_it_is(self):
        key = plain_key(USUAL)
        before = key.text()
        key.public_tables(draws=Made(1))
        key.fresh(1, draws=Made(1))
        self.assertEqual(key.text(), before)


class Refused(unittest.TestCase):
    def test_what_is_no_bit(self):
        key = plain_key(USUAL)
        for wrong in [2, -1, GREAT] + NO_NUMBERS:
            for call in (key.fresh, key.selector_of):
                for spy in (Spy(Made(3)), Spy(counting_draws())):
                    found = told(call, wrong, draws=spy.draws)
                    self.assertEqual(found, ("InvalidNumber", {"value": wrong}))
                    self.assertIs(found[1]["value"], wrong)
                    self.assertTrue(spy.untouched(USUAL))

    def test_what_is_no_row(self):
        key = plain_key(USUAL)
        for wrong in [None, True, 1, "", "01", {}, {0: 1}, USUAL, [0] * 33, (1,) * 33, [None] * 33]:
            for spy in (Spy(Made(3)), Spy(counting_draws())):
                self.assertEqual(told(key.switch_from, wrong, draws=spy.draws), ("BadBits", {"at": -1}))
                self.assertTrue(spy.untouched(USUAL))
        for at in (0, 1, 31):
            for wrong in [2, -1, GREAT] + NO_NUMBERS:
                for spy in (Spy(Made(3)), Spy(counting_draws())):
                    row = [1] * at + [wrong] * (32 - at)
                    self.assertEqual(told(key.switch_from, row, draws=spy.draws), ("BadBits", {"at": at}))
                    self.assertTrue(spy.untouched(USUAL))

    def test_the_spy_sees_a_draw(self):
        for spy in (Spy(Made(3)), Spy(counting_draws())):
            self.assertTrue(spy.untouched(USUAL))
            spy.draws.noise(USUAL)
            self.assertFalse(spy.untouched(USUAL))


class Telling(unittest.TestCase):
    def test_phases(self):
        key = Key(SPREAD, [1, 0], [0] * 4)
        self.assertEqual(key.phase(Cover(SPREAD, [10, 20], 15)), 5)
        self.assertEqual(key.phase(cover=Cover(SPREAD, [10, 20], 5)), -5)
        self.assertEqual([key.phase(Cover(SPREAD, [0, 9], body)) for body in (127, 128, 129, 255, 0)],
                         [127, -128, -127, -1, 0])
        for sizes in ALL_SIZES:
            for bits in itertools.product((0, 1), repeat=sizes.length):
                key = Key(sizes, bits, [1] * sizes.ring)
                for seed in range(6):
                    cover = some_cover(sizes, seed)
                    self.assertEqual(key.phase(cover), slow.phase(row_of(cover), bits, sizes.modulus))

    def test_opening(self):
        key = plain_key(SPREAD)
        for body in range(256):
            cover = Cover(SPREAD, [100, 9], 100 + body)
            self.assertEqual(key.opened(cover=cover), 1 if body < 128 else 0)

    def test_noises_at_all_levels(self):
        key = plain_key(SPREAD)
        for body in range(256):
            for level in range(8):
                away = (body - 32 * level) % 256
                cover = Cover(SPREAD, [100, 9], 100 + body)
                self.assertEqual(key.noise_at(cover, level), min(away, 256 - away))
        self.assertEqual(key.noise_at(cover=Cover(SPREAD, [0, 0], 128), level=0), 128)

    def test_wrong_levels(self):
        key, cover = plain_key(SPREAD), Cover(SPREAD, [0, 0], 0)
        for wrong in [8, -1, GREAT, -GREAT] + NO_NUMBERS:
            found = told(key.noise_at, cover, wrong)
            self.assertEqual(found, ("InvalidNumber", {"value": wrong}))
            self.assertIs(found[1]["value"], wrong)

    def test_constants_have_no_noise(self):
        for sizes in ALL_SIZES:
            for key in (plain_key(sizes), Key(sizes, [1] * sizes.length, [1] * sizes.ring)):
                self.assertEqual([key.noise_at(Cover.constant(sizes, bit), 1 if bit else 7) for bit in (0, 1)], [0, 0])
                self.assertEqual([key.opened(Cover.constant(sizes, bit)) for bit in (0, 1)], [0, 1])

    def test_noises_below_an_eighth_open_to_the_bit(self):
        for sizes in ALL_SIZES:
            key, eighth = plain_key(sizes), sizes.modulus // 8
            for bit, level in ((1, 1), (0, 7)):
                for noise in (0, 1, eighth - 1, 1 - eighth):
                    cover = some_cover(sizes, 3)
                    cover = cover.shifted(level) + Cover(sizes, [0] * sizes.length, noise - key.phase(cover))
                    self.assertEqual([key.noise_at(cover, level), key.opened(cover)], [abs(noise), bit])

    def test_phases_of_sums(self):
        for sizes in ALL_SIZES:
            key = plain_key(sizes)
            for seed in range(4):
                one, other = some_cover(sizes, seed), some_cover(sizes, seed + 1)
                for found, wanted in ((one + other, key.phase(one) + key.phase(other)),
                                      (one - other, key.phase(one) - key.phase(other)),
                                      (-one, -key.phase(one)), (5 * one, 5 * key.phase(one))):
                    self.assertEqual(key.phase(found), slow.centered(wanted, sizes.modulus))

    def test_ring_phases(self):
        for sizes in ALL_SIZES:
            key = plain_key(sizes)
            rows = [[(seed * 77 + k) ** 11 % sizes.modulus for k in range(sizes.ring)] for seed in range(4)]
            for first, second in itertools.product(rows, repeat=2):
                found = key.ring_phase(RingCover(Poly(sizes, first), Poly(sizes, second)))
                self.assertIsInstance(found, Poly)
                wanted = slow.ring_phase((first, second), key.poly_bits(), sizes.modulus)
                self.assertEqual(found.centered_numbers(), wanted)
        ring = RingCover.start(TINY, 3)
        self.assertEqual(plain_key(TINY).ring_phase(ring=ring), ring.second)

    def test_unlike_sizes_come_first(self):
        for sizes, other in each_other_sizes():
            for one, two in ((sizes, other), (other, sizes)):
                key, cover, ring = plain_key(one), some_cover(two, 1), RingCover.start(two, 1)
                for call in (key.phase, key.opened):
                    self.assertEqual(told(call, cover), ("Unlike", {}))
                self.assertEqual(told(key.noise_at, cover, 1), ("Unlike", {}))
                self.assertEqual(told(key.noise_at, cover, None), ("Unlike", {}))
                self.assertEqual(told(key.ring_phase, ring), ("Unlike", {}))


class Texts(unittest.TestCase):
    def test_signs(self):
        self.assertEqual(Key(TINY, [1], [0, 1, 1, 0]).text(), "key 1 4 16 2 0\n1\n0 1 1 0\n")
        self.assertEqual(Key(USUAL, [0, 1], [1, 0, 0, 0, 0, 0, 0, 1]).text(),
                         "key 2 8 65536 2 1\n0 1\n1 0 0 0 0 0 0 1\n")

    def test_reading_what_was_written(self):
        for sizes in ALL_SIZES:
            for seed in range(5):
                key = Key.drawn(sizes, draws=Made(seed))
                self.assertEqual(Key.read(key.text()), key)
                self.assertEqual(Key.read(text=key.text()).text(), key.text())

    def test_bent_texts(self):
        for key in (Key(TINY, [1], [0, 1, 1, 0]), plain_key(USUAL)):
            for text, line in bent_texts(key.text()):
                self.assertEqual(told(Key.read, text), ("InvalidText", {"line": line}), text)

    def test_lines_that_cannot_stand(self):
        rows = "1 0\n1 0 0 0 0 0 0 0\n"
        for head in ("key 0 8 65536 2 1", "key 9 8 65536 2 1", "key 2 7 65536 2 1", "key 2 64 65536 2 1",
                     "key 2 8 65535 2 1", "key 2 8 131072 2 1", "key 2 8 65536 0 1", "key 2 8 65536 9 1",
                     "key 2 8 65536 2 1001", "key 2 8 65536 2 -1", "key 2 8 4 2 1", "key 02 8 65536 2 1", "Key 2 8 65536 2 1",
                     "public 2 8 65536 2 1", "keys 2 8 65536 2 1", "2 8 65536 2 1", "key", "key ", "", "key 2 8 65536 2",
                     "key 2 8 65536 2 1 0", "key key 2 8 65536 2 1", "key 2 8 65536 2 " + "1" * 6000):
            self.assertEqual(told(Key.read, head + "\n" + rows), ("InvalidText", {"line": 0}), head)
        head = "key 2 8 65536 2 1\n"
        for first in ("2 0", "1 2", "0 -1", "1", "1 0 1", "01 0", "1 a"):
            self.assertEqual(told(Key.read, head + first + "\n" + rows[4:]), ("InvalidText", {"line": 1}), first)
        for second in ("2 0 0 0 0 0 0 0", "0 0 0 0 0 0 0 2", "0 0 0 0 0 0 0", "0 0 0 0 0 0 0 0 0", "0 0 0 0 0 0 0 -0"):
            self.assertEqual(told(Key.read, head + "1 0\n" + second + "\n"), ("InvalidText", {"line": 2}), second)
        self.assertEqual(told(Key.read, ""), ("InvalidText", {"line": 0}))
        self.assertEqual(told(Key.read, "\n"), ("InvalidText", {"line": 0}))
        self.assertEqual(told(Key.read, head), ("InvalidText", {"line": 1}))
        self.assertEqual(told(Key.read, head + "1 0\n"), ("InvalidText", {"line": 2}))

    def test_values_that_are_no_strings(self):
        for value in NO_STRINGS + [plain_key(TINY)]:
            self.assertEqual(told(Key.read, value), ("InvalidText", {"line": 0}))


if __name__ == "__main__":
    unittest.main()
