"""Promises 8, 9 and 13 for ring covers, with promise 2 for them."""

import unittest

from helpers import (GREAT, GREATEST, MANY_PLACES, NO_NUMBERS, TINY, USUAL, difference_of, each_other_sizes,
                     product_of, samples, sum_of, told)
from veiledgates.covers import Cover
from veiledgates.polys import Poly
from veiledgates.rings import RingCover

ALL_SIZES = [TINY, USUAL, MANY_PLACES, GREATEST]


def some_rings(sizes):
    polys = samples(sizes)
    return [RingCover(first, second) for first, second in zip(polys, polys[1:] + polys[:1])]


def filled(sizes, number):
    return Poly(sizes, [number] * sizes.ring)


class Making(unittest.TestCase):
    def test_attributes(self):
        first, second = Poly(TINY, [1, 2, 3, 4]), Poly(TINY, [5, 6, 7, 8])
        for ring in (RingCover(first, second), RingCover(second=second, first=first)):
            self.assertEqual([ring.first, ring.second, ring.sizes], [first, second, TINY])

    def test_unlike_polynomials(self):
        for sizes, other in each_other_sizes():
            one, two = filled(sizes, 1), filled(other, 1)
            self.assertEqual(told(RingCover, one, two), ("Unlike", {}))
            self.assertEqual(told(RingCover, two, one), ("Unlike", {}))

    def test_starts(self):
        ring = RingCover.start(TINY, 0)
        self.assertEqual([ring.first.numbers(), ring.second.numbers()], [[0] * 4, [32] * 4])
        self.assertEqual(RingCover.start(TINY, 1).second.centered_numbers(), [32, 32, 32, -32])
        self.assertEqual(RingCover.start(TINY, -1).second.centered_numbers(), [-32, 32, 32, 32])
        self.assertEqual(RingCover.start(TINY, 5).second.centered_numbers(), [-32, -32, -32, 32])

    def test_starts_of_all_numbers(self):
        for sizes in ALL_SIZES:
            ring, eighth = sizes.ring, sizes.modulus // 8
            for number in range(2 * ring):
                for rounds in (0, 1, -1, GREAT, -GREAT):
                    start = RingCover.start(sizes=sizes, number=number + 2 * ring * rounds)
                    self.assertEqual(start.sizes, sizes)
                    self.assertEqual(start.first, filled(sizes, 0))
                    wanted = [eighth if (k + number) % (2 * ring) < ring else -eighth for k in range(ring)]
                    self.assertEqual(start.second.centered_numbers(), wanted)
                first = RingCover.start(sizes, number).second.centered_numbers()[0]
                self.assertEqual(first, eighth if number < ring else -eighth)


class Reckoning(unittest.TestCase):
    def test_polynomial_by_polynomial(self):
        for sizes in ALL_SIZES:
            for one in some_rings(sizes):
                for other in some_rings(sizes):
                    self.assertEqual(one + other, RingCover(one.first + other.first, one.second + other.second))
                    self.assertEqual(one - other, RingCover(one.first - other.first, one.second - other.second))
                self.assertEqual(-one, RingCover(-one.first, -one.second))
                for poly in samples(sizes):
                    self.assertEqual(one * poly, RingCover(one.first * poly, one.second * poly))

    def test_with_plain_numbers(self):
        one = RingCover(Poly(TINY, [1, 2, 3, 4]), Poly(TINY, [5, 6, 7, 8]))
        other = RingCover(Poly(TINY, [1, 1, 1, 1]), Poly(TINY, [9, 0, 0, 0]))
        found = [one + other, one - other, -one, one * Poly.one_number(TINY, 2, 1), one.turned(1)]
        self.assertEqual([ring.first.centered_numbers() for ring in found],
                         [[2, 3, 4, 5], [0, 1, 2, 3], [-1, -2, -3, -4], [-8, 2, 4, 6], [-4, 1, 2, 3]])
        self.assertEqual([ring.second.centered_numbers() for ring in found],
                         [[14, 6, 7, 8], [-4, 6, 7, 8], [-5, -6, -7, -8], [-16, 10, 12, 14], [-8, 5, 6, 7]])

    def test_turning(self):
        for sizes in ALL_SIZES:
            ring = sizes.ring
            for one in some_rings(sizes):
                for by in (0, 1, -1, ring - 1, ring, ring + 1, 2 * ring, -ring, -2 * ring, GREAT, -GREAT):
                    self.assertEqual(one.turned(by), RingCover(one.first.turned(by), one.second.turned(by)))
                self.assertEqual(one.turned(by=2 * ring), one)
                self.assertEqual(one.turned(ring), -one)

    def test_other_operands_are_refused(self):
        poly = Poly(TINY, [1, 2, 3, 4])
        ring = RingCover(poly, poly)
        for other in NO_NUMBERS + [1, Cover(TINY, [1], 2)]:
            for call in (sum_of, difference_of, product_of):
                self.assertRaises(TypeError, call, ring, other)
                self.assertRaises(TypeError, call, other, ring)
        self.assertRaises(TypeError, product_of, ring, ring)
        self.assertRaises(TypeError, product_of, poly, ring)
        for call in (sum_of, difference_of):
            self.assertRaises(TypeError, call, ring, poly)
            self.assertRaises(TypeError, call, poly, ring)

    def test_they_never_change(self):
        first, second = Poly(TINY, [1, 2, 3, 4]), Poly(TINY, [5, 6, 7, 8])
        one, other = RingCover(first, second), RingCover(second, first)
        for changed in range(4):
            kept = one
            if changed == 0:
                kept += other
            elif changed == 1:
                kept -= other
            elif changed == 2:
                kept *= first
            else:
                kept = -kept.turned(1)
            self.assertNotEqual(kept, one)
            self.assertEqual([one.first, one.second, other.first], [first, second, second])
            self.assertEqual([first.numbers(), second.numbers()], [[1, 2, 3, 4], [5, 6, 7, 8]])


class Comparing(unittest.TestCase):
    def test_equality(self):
        one, other = Poly(TINY, [1, 2, 3, 4]), Poly(TINY, [5, 6, 7, 8])
        self.assertIs(RingCover(one, other) == RingCover(Poly(TINY, [257, 2, 3, 4]), other), True)
        self.assertIs(RingCover(one, other) != RingCover(Poly(TINY, [257, 2, 3, 4]), other), False)
        for wrong in (RingCover(other, one), RingCover(one, one), RingCover(other, other)):
            self.assertIs(RingCover(one, other) == wrong, False)
            self.assertIs(RingCover(one, other) != wrong, True)
        for sizes, unlike in each_other_sizes():
            ring = RingCover(filled(sizes, 1), filled(sizes, 1))
            self.assertIs(ring == RingCover(filled(unlike, 1), filled(unlike, 1)), False)

    def test_equals_nothing_else(self):
        one = Poly(TINY, [1, 2, 3, 4])
        ring = RingCover(one, one)
        for other in (None, True, 1, "", (one, one), [one, one], one, TINY, Cover(TINY, [1], 2)):
            self.assertIs(ring == other, False)
            self.assertIs(ring != other, True)

    def test_unlike_sizes(self):
        for sizes, other in each_other_sizes():
            one, two = RingCover.start(sizes, 0), RingCover.start(other, 0)
            for call in (sum_of, difference_of):
                self.assertEqual(told(call, one, two), ("Unlike", {}))
                self.assertEqual(told(call, two, one), ("Unlike", {}))
            self.assertEqual(told(product_of, one, filled(other, 1)), ("Unlike", {}))
            self.assertEqual(told(product_of, two, filled(sizes, 1)), ("Unlike", {}))


if __name__ == "__main__":
    unittest.main()
