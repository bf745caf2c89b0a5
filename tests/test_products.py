"""Promises 5 and 11: products two ways, and the digit polynomials."""

import unittest

from helpers import GREATEST, MANY_PLACES, TINY, USUAL, each_other_sizes, samples, slow_product, told
from veiledgates.polys import Poly
from veiledgates.products import digit_polys, packed_product, plain_product
from veiledgates.residues import digits
from veiledgates.sizes import Sizes

SHAPES = ((65536, 8), (8, 3), (512, 1))
RINGS = [Sizes(1, ring, base, places, 1000) for ring in (4, 8, 16, 32) for base, places in SHAPES]


class Products(unittest.TestCase):
    def test_both_ways(self):
        for sizes in [TINY, USUAL, MANY_PLACES, GREATEST] + RINGS:
            for one in samples(sizes):
                for other in samples(sizes):
                    wanted = Poly(sizes, slow_product(one, other))
                    self.assertEqual(plain_product(one, other), wanted)
                    self.assertEqual(packed_product(one, other), wanted)

    def test_residues_all_at_the_top(self):
        for sizes in RINGS:
            top = Poly(sizes, [-1] * sizes.ring)
            # Behind (-1) times (-1) stand k + 1 sums with the sign + and N - k - 1 with the sign -.
            wanted = [(2 * (k + 1) - sizes.ring) % sizes.modulus for k in range(sizes.ring)]
            self.assertEqual(plain_product(top, top).numbers(), wanted)
            self.assertEqual(packed_product(top, top).numbers(), wanted)

    def test_by_name_and_unchanged(self):
        one, other = Poly(TINY, [1, 2, 0, 0]), Poly(TINY, [0, 0, 0, 1])
        for product in (plain_product, packed_product):
            self.assertEqual(product(one=one, other=other).numbers(), [254, 0, 0, 1])
            self.assertEqual(product(one, one).sizes, TINY)
        self.assertEqual([one.numbers(), other.numbers()], [[1, 2, 0, 0], [0, 0, 0, 1]])

    def test_unlike_sizes(self):
        for sizes, other in each_other_sizes():
            one, two = Poly(sizes, [1] * sizes.ring), Poly(other, [1] * other.ring)
            for product in (plain_product, packed_product):
                self.assertEqual(told(product, one, two), ("Unlike", {}))
                self.assertEqual(told(product, two, one), ("Unlike", {}))


class DigitPolys(unittest.TestCase):
    def test_digits_by_place(self):
        found = digit_polys(Poly(TINY, [200, 8, 255, 7]))
        self.assertEqual([poly.centered_numbers() for poly in found], [[-8, -8, -1, 7], [-3, 1, 0, 0]])
        self.assertEqual([poly.numbers() for poly in found], [[248, 248, 255, 7], [253, 1, 0, 0]])

    def test_all_sizes(self):
        for sizes in [TINY, USUAL, MANY_PLACES, GREATEST] + RINGS:
            for poly in samples(sizes):
                found = digit_polys(poly=poly)
                self.assertIsInstance(found, list)
                self.assertEqual(len(found), sizes.places)
                total = Poly(sizes, [0] * sizes.ring)
                for place, part in enumerate(found):
                    self.assertEqual(part.sizes, sizes)
                    wanted = [digits(number, sizes)[place] for number in poly.numbers()]
                    self.assertEqual(part.centered_numbers(), wanted)
                    total = total + sizes.base ** place * part
                self.assertEqual(total, poly)

    def test_one_place_is_the_polynomial_itself(self):
        sizes = Sizes(1, 4, 64, 1, 0)
        poly = Poly(sizes, [0, 31, 32, 63])
        self.assertEqual(digit_polys(poly), [poly])


if __name__ == "__main__":
    unittest.main()
