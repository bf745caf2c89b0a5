"""Promises 6, 9, 22 and 27 for covers, with promise 2 for them."""

import unittest

from helpers import (GREAT, GREATEST, MANY_PLACES, NO_NUMBERS, TINY, USUAL, difference_of, each_other_sizes,
                     product_of, sum_of, told)
from veiledgates.covers import Cover
from veiledgates.polys import Poly
from veiledgates.sizes import Sizes

ALL_SIZES = [TINY, USUAL, MANY_PLACES, GREATEST]


def cover_of(sizes, seed):
    """Some cover with sizes, which looks drawn."""
    numbers = [(seed * 7919 + k * 104729) ** 9 for k in range(sizes.length + 1)]
    return Cover(sizes, numbers[:-1], numbers[-1])


def some_covers(sizes):
    top = sizes.modulus - 1
    ends = [Cover(sizes, [value] * sizes.length, value) for value in (0, 1, top, top // 2 + 1)]
    return ends + [cover_of(sizes, seed) for seed in range(1, 4)]


def parts(cover):
    return cover.mask() + [cover.body]


def phase(cover, bits):
    """The phase by its words: centered(b minus the sum of all a_i * s_i)."""
    q = cover.sizes.modulus
    value = (cover.body - sum(a * s for a, s in zip(cover.mask(), bits))) % q
    return value - q if value >= q // 2 else value


class Making(unittest.TestCase):
    def test_numbers_are_taken_modulo_q(self):
        cover = Cover(Sizes(2, 4, 16, 2, 0), (-1, 256), 257)
        self.assertEqual([cover.mask(), cover.body], [[255, 0], 1])
        cover = Cover(sizes=TINY, mask=[GREAT], body=-GREAT)
        self.assertEqual([cover.mask(), cover.body, cover.sizes], [[GREAT % 256], -GREAT % 256, TINY])
        self.assertIsInstance(Cover(TINY, (1,), 2).mask(), list)

    def test_wrong_masks(self):
        for value in [None, True, 2, "12", "", {}, {0: 1, 1: 1}, [], (), [1], (1, 2, 3), [[1, 2]], USUAL, [None]]:
            self.assertEqual(told(Cover, USUAL, value, 1), ("BadList", {"at": -1}), value)
            self.assertEqual(told(Cover, USUAL, value, None), ("BadList", {"at": -1}), value)

    def test_first_wrong_item_at_any_place(self):
        for at in range(3):
            for wrong in NO_NUMBERS:
                for kind in (list, tuple):
                    row = [1, 2, 3]
                    row[at] = wrong
                    self.assertEqual(told(Cover, MANY_PLACES, kind(row), 1), ("BadList", {"at": at}))
                    row[at:] = [wrong] * (3 - at)
                    self.assertEqual(told(Cover, MANY_PLACES, kind(row), wrong), ("BadList", {"at": at}))

    def test_wrong_bodies(self):
        for wrong in NO_NUMBERS:
            found = told(Cover, USUAL, [1, 2], wrong)
            self.assertEqual(found, ("InvalidNumber", {"value": wrong}))
            self.assertIs(found[1]["value"], wrong)

    def test_lists_are_copied(self):
        mask = [1, 300]
        cover = Cover(Sizes(2, 4, 16, 2, 0), mask, 5)
        self.assertEqual(mask, [1, 300])
        mask[0] = 9
        cover.mask()[1] = 9
        self.assertEqual(cover.mask(), [1, 44])

    def test_constants(self):
        for sizes in ALL_SIZES:
            eighth = sizes.modulus // 8
            one, zero = Cover.constant(sizes, 1), Cover.constant(sizes=sizes, bit=0)
            self.assertEqual(parts(one), [0] * sizes.length + [eighth])
            self.assertEqual(parts(zero), [0] * sizes.length + [sizes.modulus - eighth])
            self.assertEqual([one.sizes, zero.sizes], [sizes, sizes])
            for bits in ([0] * sizes.length, [1] * sizes.length):
                self.assertEqual([phase(one, bits), phase(zero, bits)], [eighth, -eighth])

    def test_constants_of_no_bit(self):
        for wrong in [2, -1, GREAT, -GREAT] + NO_NUMBERS:
            found = told(Cover.constant, USUAL, wrong)
            self.assertEqual(found, ("InvalidNumber", {"value": wrong}))
            self.assertIs(found[1]["value"], wrong)


class Reckoning(unittest.TestCase):
    def test_sums_and_differences(self):
        for sizes in ALL_SIZES:
            q = sizes.modulus
            for one in some_covers(sizes):
                for other in some_covers(sizes):
                    pairs = list(zip(parts(one), parts(other)))
                    self.assertEqual(parts(one + other), [(a + b) % q for a, b in pairs])
                    self.assertEqual(parts(one - other), [(a - b) % q for a, b in pairs])
                    self.assertEqual((one + other).sizes, sizes)
                self.assertEqual(parts(-one), [-a % q for a in parts(one)])

    def test_products_with_a_number(self):
        for sizes in ALL_SIZES:
            for number in (0, 1, -1, 2, -12, sizes.modulus, GREAT, -GREAT):
                for cover in some_covers(sizes):
                    wanted = [number * a % sizes.modulus for a in parts(cover)]
                    self.assertEqual(parts(cover * number), wanted)
                    self.assertEqual(parts(number * cover), wanted)

    def test_phases_of_sums(self):
        sizes = Sizes(3, 4, 16, 2, 0)
        bits = [1, 0, 1]
        for one in some_covers(sizes):
            for other in some_covers(sizes):
                self.assertEqual((phase(one + other, bits) - phase(one, bits) - phase(other, bits)) % 256, 0)
                self.assertEqual((phase(one - other, bits) - phase(one, bits) + phase(other, bits)) % 256, 0)
            self.assertEqual((phase(-one, bits) + phase(one, bits)) % 256, 0)
            self.assertEqual((phase(5 * one, bits) - 5 * phase(one, bits)) % 256, 0)

    def test_a_negated_constant_is_the_other_one(self):
        for sizes in ALL_SIZES:
            self.assertEqual(-Cover.constant(sizes, 1), Cover.constant(sizes, 0))
            self.assertEqual(-Cover.constant(sizes, 0), Cover.constant(sizes, 1))

    def test_shifted_by_levels(self):
        for sizes in ALL_SIZES:
            for cover in some_covers(sizes):
                for level in (0, 1, 7, 8, 9, -1, -7, -8, GREAT, -GREAT):
                    found = cover.shifted(level)
                    self.assertEqual(found.mask(), cover.mask())
                    self.assertEqual(found.body, (cover.body + level * (sizes.modulus // 8)) % sizes.modulus)
                self.assertEqual(cover.shifted(level=3).shifted(-3), cover)
            self.assertEqual(Cover.constant(sizes, 0).shifted(2), Cover.constant(sizes, 1))

    def test_other_operands_are_refused(self):
        cover = Cover(TINY, [1], 2)
        for other in NO_NUMBERS + [Poly(TINY, [1, 2, 3, 4])]:
            for call in (sum_of, difference_of, product_of):
                self.assertRaises(TypeError, call, cover, other)
                self.assertRaises(TypeError, call, other, cover)
        self.assertRaises(TypeError, product_of, cover, cover)
        for call in (sum_of, difference_of):
            self.assertRaises(TypeError, call, cover, 1)
            self.assertRaises(TypeError, call, 1, cover)

    def test_they_never_change(self):
        one, other = Cover(USUAL, [1, 2], 3), Cover(USUAL, [4, 5], 6)
        for changed in range(4):
            kept = one
            if changed == 0:
                kept += other
            elif changed == 1:
                kept -= other
            elif changed == 2:
                kept *= 3
            else:
                kept = -kept.shifted(1)
            self.assertNotEqual(kept, one)
            self.assertEqual([parts(one), parts(other)], [[1, 2, 3], [4, 5, 6]])


class Comparing(unittest.TestCase):
    def test_equality(self):
        one = Cover(TINY, [1], 2)
        self.assertIs(one == Cover(TINY, (257,), -254), True)
        self.assertIs(one != Cover(TINY, (257,), -254), False)
        for other in (Cover(TINY, [2], 2), Cover(TINY, [1], 1), Cover(TINY, [2], 1)):
            self.assertIs(one == other, False)
            self.assertIs(one != other, True)
        for sizes, other in each_other_sizes():
            if sizes.length == other.length:
                self.assertIs(Cover(sizes, [1, 1], 1) == Cover(other, [1, 1], 1), False)

    def test_equals_nothing_else(self):
        cover = Cover(TINY, [1], 2)
        for other in (None, True, 1, "1 2", [1, 2], (1, 2), TINY, Poly(TINY, [1, 2, 0, 0])):
            self.assertIs(cover == other, False)
            self.assertIs(cover != other, True)

    def test_unlike_sizes(self):
        for sizes, other in each_other_sizes():
            one, two = Cover(sizes, [1] * sizes.length, 1), Cover(other, [1] * other.length, 1)
            for call in (sum_of, difference_of):
                self.assertEqual(told(call, one, two), ("Unlike", {}))
                self.assertEqual(told(call, two, one), ("Unlike", {}))


class Texts(unittest.TestCase):
    def test_texts(self):
        self.assertEqual(Cover(TINY, [-1], 0).text(), "255 0")
        self.assertEqual(str(Cover(TINY, [-1], 0)), "255 0")
        self.assertEqual(Cover(USUAL, [1, 2], 3).text(), "1 2 3")
        self.assertEqual(f"{Cover(GREATEST, [-1] * 8, -1)}", " ".join([str(2 ** 128 - 1)] * 9))

    def test_reading_what_was_written(self):
        for sizes in ALL_SIZES:
            for cover in some_covers(sizes):
                self.assertEqual(Cover.read(sizes, cover.text()), cover)
                self.assertEqual(Cover.read(sizes=sizes, text=str(cover)).text(), cover.text())

    def test_all_residues_can_stand(self):
        for value in range(256):
            self.assertEqual(parts(Cover.read(TINY, f"{value} {255 - value}")), [value, 255 - value])

    def test_texts_that_cannot_stand(self):
        wrong = ["", " ", "\n", "1", "1 ", " 1", "1 2 3", "1  2", " 1 2", "1 2 ", "1 2\n", "\n1 2", "1\n2", "1\n 2",
                 "-1 2", "1 -2", "+1 2", "1 +2", "-0 2", "1 -0", "01 2", "1 02", "00 2", "1 00", "256 2", "1 256",
                 "1 257", "1 999", "1 1000", "1 0255", "1 1" + "0" * 5000, "9" * 5000 + " 1", "1 " + "0" * 5000 + "1",
                 "1" * 60000, "1 " * 30000, "1_0 2", "1 1_0", "0x1 2", "1.0 2", "1 2.", "1e1 2", "a 2", "1 b", "None 2",
                 "1,2", "1, 2", "(1 2)", "[1] 2", "1\t2", "1 2\r", "1 \u0662", "1 \u00b2", "\u0661 2"]
        for text in wrong:
            self.assertEqual(told(Cover.read, TINY, text), ("InvalidText", {"line": 0}), text[:20])

    def test_a_number_at_the_modulus(self):
        for sizes in ALL_SIZES:
            for at in range(sizes.length + 1):
                words = ["0"] * (sizes.length + 1)
                for value in (sizes.modulus, sizes.modulus + 1, 10 * sizes.modulus):
                    words[at] = str(value)
                    found = told(Cover.read, sizes, " ".join(words))
                    self.assertEqual(found, ("InvalidText", {"line": 0}))
                words[at] = str(sizes.modulus - 1)
                self.assertEqual(parts(Cover.read(sizes, " ".join(words)))[at], sizes.modulus - 1)

    def test_values_that_are_no_strings(self):
        for value in NO_NUMBERS + [1, GREAT, [1, 2], (1, 2), ["1 2"], Cover(TINY, [1], 2)]:
            self.assertEqual(told(Cover.read, TINY, value), ("InvalidText", {"line": 0}))


if __name__ == "__main__":
    unittest.main()
