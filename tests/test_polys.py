"""Promise 5: polynomials, with promise 2 for them."""

import copy
import unittest

from helpers import (GREAT, GREATEST, MANY_PLACES, NO_NUMBERS, TINY, USUAL, difference_of, each_other_sizes,
                     product_of, samples, slow_product, sum_of, told)
from veiledgates.covers import Cover
from veiledgates.polys import Poly
from veiledgates.rings import RingCover
from veiledgates.sizes import Sizes

ALL_SIZES = (TINY, USUAL, MANY_PLACES, GREATEST)
RINGS = [Sizes(1, ring, 8, 3, 1) for ring in (4, 8, 16, 32)]


class Making(unittest.TestCase):
    def test_numbers_are_taken_modulo_q(self):
        self.assertEqual(Poly(TINY, [-1, 256, 255, 257]).numbers(), [255, 0, 255, 1])
        self.assertEqual(Poly(TINY, (GREAT, -GREAT, 0, 1)).numbers(), [GREAT % 256, -GREAT % 256, 0, 1])
        self.assertEqual(Poly(sizes=TINY, numbers=(1, 2, 3, 4)).numbers(), [1, 2, 3, 4])
        self.assertIsInstance(Poly(TINY, (1, 2, 3, 4)).numbers(), list)
        self.assertEqual(Poly(TINY, [0] * 4).sizes, TINY)

    def test_wrong_lists(self):
        wrong = [None, True, 4, "1234", "", {}, {0: 1, 1: 1, 2: 1, 3: 1}, [], (), [1] * 3, (1,) * 5, [[1, 2, 3, 4]],
                 TINY, Poly(TINY, [1, 2, 3, 4]), [None] * 3]
        for value in wrong:
            self.assertEqual(told(Poly, TINY, value), ("BadList", {"at": -1}), value)

    def test_first_wrong_item_at_any_place(self):
        for at in range(4):
            for wrong in NO_NUMBERS:
                for kind in (list, tuple):
                    row = [1, 2, 3, 4]
                    row[at] = wrong
                    self.assertEqual(told(Poly, TINY, kind(row)), ("BadList", {"at": at}))
                    row[at:] = [wrong] * (4 - at)
                    self.assertEqual(told(Poly, TINY, kind(row)), ("BadList", {"at": at}))

    def test_lists_are_copied(self):
        row = [1, 2, 3, 300]
        poly = Poly(TINY, row)
        self.assertEqual(row, [1, 2, 3, 300])
        row[0] = 9
        poly.numbers()[1] = 9
        poly.centered_numbers()[2] = 9
        self.assertEqual(poly.numbers(), [1, 2, 3, 44])
        self.assertEqual(poly.centered_numbers(), [1, 2, 3, 44])

    def test_one_number(self):
        self.assertEqual(Poly.one_number(TINY, -1).numbers(), [255, 0, 0, 0])
        for at in range(4):
            self.assertEqual(Poly.one_number(TINY, 300, at).numbers(), [44 if k == at else 0 for k in range(4)])
        self.assertEqual(Poly.one_number(sizes=TINY, value=GREAT, at=3).numbers(), [0, 0, 0, GREAT % 256])
        self.assertEqual(Poly.one_number(GREATEST, 7, at=31).numbers(), [0] * 31 + [7])

    def test_one_number_at_no_index(self):
        for wrong in [-1, 4, GREAT, -GREAT] + NO_NUMBERS:
            found = told(Poly.one_number, TINY, 5, wrong)
            self.assertEqual(found, ("InvalidNumber", {"value": wrong}))
            self.assertIs(found[1]["value"], wrong)
        self.assertEqual(told(Poly.one_number, USUAL, 5, at=8), ("InvalidNumber", {"value": 8}))


class Reckoning(unittest.TestCase):
    def test_centered_numbers_and_the_greatest(self):
        poly = Poly(TINY, [127, 128, 255, 0])
        self.assertEqual(poly.centered_numbers(), [127, -128, -1, 0])
        self.assertEqual([poly.greatest(), abs(poly)], [128, 128])
        for numbers, wanted in (([0] * 4, 0), ([127, 0, 0, 0], 127), ([0, 0, 0, 129], 127), ([1, 250, 2, 0], 6),
                                ([128] * 4, 128), ([0, 3, -4, 2], 4), ([255] * 4, 1)):
            self.assertEqual(Poly(TINY, numbers).greatest(), wanted)
            self.assertEqual(abs(Poly(TINY, numbers)), wanted)
        for sizes in ALL_SIZES:
            half = sizes.modulus // 2
            self.assertEqual(Poly.one_number(sizes, half, sizes.ring - 1).greatest(), half)
            self.assertEqual(abs(Poly.one_number(sizes, half - 1)), half - 1)

    def test_sums_and_differences(self):
        for sizes in ALL_SIZES:
            q = sizes.modulus
            for one in samples(sizes):
                for other in samples(sizes):
                    pairs = list(zip(one.numbers(), other.numbers()))
                    self.assertEqual((one + other).numbers(), [(a + b) % q for a, b in pairs])
                    self.assertEqual((one - other).numbers(), [(a - b) % q for a, b in pairs])
                self.assertEqual((-one).numbers(), [-a % q for a in one.numbers()])

    def test_products(self):
        for sizes in list(ALL_SIZES) + RINGS:
            for one in samples(sizes):
                for other in samples(sizes):
                    self.assertEqual((one * other).numbers(), slow_product(one, other))

    def test_products_with_a_number(self):
        for sizes in ALL_SIZES:
            for number in (0, 1, -1, 3, sizes.modulus, GREAT, -GREAT):
                for poly in samples(sizes):
                    wanted = [number * value % sizes.modulus for value in poly.numbers()]
                    self.assertEqual((poly * number).numbers(), wanted)
                    self.assertEqual((number * poly).numbers(), wanted)

    def test_turning(self):
        poly = Poly(TINY, [1, 2, 3, 4])
        self.assertEqual(poly.turned(1).numbers(), [252, 1, 2, 3])
        self.assertEqual(poly.turned(-1).numbers(), [2, 3, 4, 255])
        self.assertEqual(poly.turned(by=6).numbers(), [3, 4, 255, 254])
        for sizes in list(ALL_SIZES) + RINGS:
            ring = sizes.ring
            power = Poly.one_number(sizes, 1, 1)
            for one in samples(sizes):
                wanted = one
                for by in range(2 * ring + 1):
                    for rounds in (0, 1, -1, GREAT, -GREAT):
                        self.assertEqual(one.turned(by + 2 * ring * rounds), wanted)
                    wanted = Poly(sizes, slow_product(wanted, power))
                self.assertEqual(one.turned(0), one)
                self.assertEqual(one.turned(ring), -one)
                self.assertEqual(one.turned(-ring), -one)
                self.assertEqual(one.turned(2 * ring), one)

    def test_other_operands_are_refused(self):
        poly = Poly(TINY, [1, 2, 3, 4])
        for other in NO_NUMBERS + [Cover(TINY, [1], 2), RingCover(poly, poly)]:
            for call in (sum_of, difference_of, product_of):
                self.assertRaises(TypeError, call, poly, other)
        for other in NO_NUMBERS + [Cover(TINY, [1], 2)]:
            for call in (sum_of, difference_of, product_of):
                self.assertRaises(TypeError, call, other, poly)
        for call in (sum_of, difference_of):
            self.assertRaises(TypeError, call, poly, 1)
            self.assertRaises(TypeError, call, 1, poly)

    def test_they_never_change(self):
        one, other = Poly(TINY, [1, 2, 3, 4]), Poly(TINY, [5, 6, 7, 8])
        for changed in range(5):
            kept = one
            if changed == 0:
                kept += other
            elif changed == 1:
                kept -= other
            elif changed == 2:
                kept *= other
            elif changed == 3:
                kept *= 3
            else:
                kept = abs(-kept.turned(1))
            self.assertNotEqual(kept, one)
            self.assertEqual([one.numbers(), other.numbers()], [[1, 2, 3, 4], [5, 6, 7, 8]])


class Comparing(unittest.TestCase):
    def test_equality(self):
        one = Poly(TINY, [1, 2, 3, 4])
        self.assertIs(one == Poly(TINY, (257, -254, 3, 4)), True)
        self.assertIs(one != Poly(TINY, (257, -254, 3, 4)), False)
        self.assertIs(one == Poly(TINY, [1, 2, 3, 5]), False)
        self.assertIs(one != Poly(TINY, [1, 2, 3, 5]), True)
        for sizes, other in each_other_sizes():
            if sizes.ring == other.ring:
                self.assertIs(Poly(sizes, [1] * 8) == Poly(other, [1] * 8), False)

    def test_equals_nothing_else(self):
        one = Poly(TINY, [1, 2, 3, 4])
        others = [None, True, 1, "Poly(1, 2, 3, 4)", [1, 2, 3, 4], (1, 2, 3, 4), TINY, Cover(TINY, [1], 2),
                  RingCover(one, one), copy.deepcopy]
        for other in others:
            self.assertIs(one == other, False)
            self.assertIs(one != other, True)

    def test_unlike_sizes(self):
        for sizes, other in each_other_sizes():
            one, two = Poly(sizes, [1] * sizes.ring), Poly(other, [1] * other.ring)
            for call in (sum_of, difference_of, product_of):
                self.assertEqual(told(call, one, two), ("Unlike", {}))
                self.assertEqual(told(call, two, one), ("Unlike", {}))

    def test_repr(self):
        self.assertEqual(repr(Poly(TINY, [1, 0, 0, -1])), "Poly(1, 0, 0, 255)")
        self.assertEqual(repr(Poly(USUAL, [1, 0, 0, 3] * 2)), "Poly(1, 0, 0, 3, 1, 0, 0, 3)")


if __name__ == "__main__":
    unittest.main()
