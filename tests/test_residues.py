"""Promise 4: residues, centered values, digits and rounded values."""

import unittest

from helpers import GREAT, GREATEST, MANY_PLACES, TINY, USUAL
from veiledgates.residues import centered, digits, rounded, whole
from veiledgates.sizes import Sizes

ALL_SIZES = (TINY, USUAL, GREATEST, MANY_PLACES, Sizes(1, 4, 4, 3, 0), Sizes(1, 4, 64, 1, 0))


def samples(sizes):
    q = sizes.modulus
    near = [0, 1, 2, sizes.base // 2, sizes.base, q // 4, q // 2, q, 2 * q, q // (4 * sizes.ring)]
    around = [value + step for value in near for step in (-1, 0, 1)]
    return around + [-value for value in around] + [GREAT, -GREAT, GREAT * q + 5, -GREAT * q - 5, 123456789]


class Centered(unittest.TestCase):
    def test_edges(self):
        for sizes in ALL_SIZES:
            q = sizes.modulus
            for value, wanted in ((0, 0), (q // 2 - 1, q // 2 - 1), (q // 2, -q // 2), (q - 1, -1), (q, 0), (-1, -1),
                                  (-q // 2, -q // 2), (-q // 2 - 1, q // 2 - 1), (3 * q + 1, 1), (-3 * q - 1, -1)):
                self.assertEqual(centered(value, sizes), wanted)

    def test_by_its_meaning(self):
        for sizes in ALL_SIZES:
            q = sizes.modulus
            for value in samples(sizes):
                found = centered(value, sizes)
                self.assertTrue(-q // 2 <= found <= q // 2 - 1)
                self.assertEqual((found - value) % q, 0)
        self.assertEqual(centered(value=200, sizes=TINY), -56)


class Digits(unittest.TestCase):
    def test_all_numbers_of_small_sizes(self):
        for sizes in (TINY, Sizes(1, 4, 4, 3, 0), Sizes(1, 4, 64, 1, 0)):
            base = sizes.base
            for value in range(sizes.modulus):
                row = digits(value, sizes)
                self.assertEqual(len(row), sizes.places)
                self.assertTrue(all(-base // 2 <= digit <= base // 2 - 1 for digit in row))
                self.assertEqual(sum(digit * base ** k for k, digit in enumerate(row)) % sizes.modulus, value)

    def test_digits_at_the_half(self):
        self.assertEqual(digits(7, TINY), [7, 0])
        self.assertEqual(digits(8, TINY), [-8, 1])
        self.assertEqual(digits(7 + 16 * 7, TINY), [7, 7])
        self.assertEqual(digits(8 + 16 * 7, TINY), [-8, -8])
        self.assertEqual(digits(32767, USUAL), [32767, 0])
        self.assertEqual(digits(32768, USUAL), [-32768, 1])

    def test_the_last_carry_is_lost(self):
        self.assertEqual(digits(255, TINY), [-1, 0])
        self.assertEqual(digits(-1, TINY), [-1, 0])
        self.assertEqual(digits(248, TINY), [-8, 0])
        self.assertEqual(digits(128, TINY), [0, -8])
        self.assertEqual(digits(63, Sizes(1, 4, 64, 1, 0)), [-1])
        self.assertEqual(digits(2 ** 128 - 1, GREATEST), [-1] + [0] * 7)

    def test_any_numbers(self):
        for sizes in ALL_SIZES:
            for value in samples(sizes):
                row = digits(value, sizes)
                self.assertEqual(row, digits(value % sizes.modulus, sizes))
                self.assertEqual(len(row), sizes.places)
                self.assertTrue(all(-sizes.base // 2 <= digit < sizes.base // 2 for digit in row))
                self.assertEqual(whole(row, sizes), value % sizes.modulus)

    def test_the_list_is_new(self):
        digits(5, TINY).append(3)
        self.assertEqual(digits(value=5, sizes=TINY), [5, 0])


class Whole(unittest.TestCase):
    def test_any_lists(self):
        self.assertEqual(whole([], TINY), 0)
        self.assertEqual(whole((), USUAL), 0)
        self.assertEqual(whole([-8, -3], TINY), 200)
        self.assertEqual(whole((-8, -3), TINY), 200)
        self.assertEqual(whole([256], TINY), 0)
        self.assertEqual(whole([0, 0, 1], TINY), 0)
        self.assertEqual(whole([1, 0, 7, 9], TINY), 1)
        self.assertEqual(whole(row=[1, 2], sizes=TINY), 33)

    def test_great_and_long(self):
        for sizes in ALL_SIZES:
            for row in ([GREAT, -GREAT], [-1] * 20, [GREAT] * 5000, list(range(-50, 50))):
                wanted = sum(value * sizes.base ** k for k, value in enumerate(row[:200])) % sizes.modulus
                self.assertEqual(whole(row, sizes), wanted)

    def test_the_list_stays(self):
        row = [3, 4]
        whole(row, TINY)
        self.assertEqual(row, [3, 4])


class Rounded(unittest.TestCase):
    def test_by_its_formula(self):
        for sizes in ALL_SIZES:
            q = sizes.modulus
            for value in samples(sizes):
                y = value % q
                wanted = ((2 * sizes.ring * y + q // 2) // q) % (2 * sizes.ring)
                self.assertEqual(rounded(value, sizes), wanted)

    def test_just_at_the_half(self):
        # In the tiny sizes 32 residues make one step, and 16 of them are half a step.
        self.assertEqual([rounded(value, TINY) for value in (0, 15, 16, 17, 31, 32, 47, 48)], [0, 0, 1, 1, 1, 1, 1, 2])
        self.assertEqual([rounded(value, TINY) for value in (239, 240, 255, 256, -1, -16, -17)], [7, 0, 0, 0, 0, 0, 7])
        for sizes in ALL_SIZES:
            step = sizes.modulus // (2 * sizes.ring)
            for k in range(2 * sizes.ring):
                self.assertEqual(rounded(k * step + step // 2 - 1, sizes), k)
                self.assertEqual(rounded(k * step + step // 2, sizes), (k + 1) % (2 * sizes.ring))
        self.assertEqual(rounded(value=200, sizes=TINY), 6)


if __name__ == "__main__":
    unittest.main()
