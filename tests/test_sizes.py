"""Promise 3: sizes."""

import itertools
import unittest

from helpers import GREAT, NO_NUMBERS, told
from veiledgates.sizes import Sizes

FIELDS = ("length", "ring", "base", "places", "spread")
RIGHT = (2, 8, 65536, 2, 1)


def bad(field):
    return ("BadSizes", {"field": field})


def with_field(field, value):
    values = dict(zip(FIELDS, RIGHT))
    values[field] = value
    return values


class Bounds(unittest.TestCase):
    def test_all_values_within_the_bounds(self):
        bounds = {
            "length": range(1, 9),
            "ring": (4, 8, 16, 32),
            "base": [2 ** k for k in range(4, 17)],
            "places": range(2, 9),
            "spread": range(0, 1001),
        }
        for field, values in bounds.items():
            for value in values:
                sizes = Sizes(**with_field(field, value))
                self.assertEqual(getattr(sizes, field), value)

    def test_values_out_of_the_bounds(self):
        wrong = {
            "length": [0, 9, -1],
            "ring": [0, 1, 2, 3, 5, 6, 7, 12, 24, 31, 33, 64, -4, -8],
            "base": [0, 1, 2, 3, 5, 6, 12, 65535, 65537, 131072, -4, -65536],
            "places": [0, 9, -1],
            "spread": [-1, 1001],
        }
        for field, values in wrong.items():
            for value in values + [GREAT, -GREAT, 2 ** 190] + NO_NUMBERS:
                self.assertEqual(told(Sizes, **with_field(field, value)), bad(field), value)

    def test_the_first_wrong_parameter_counts(self):
        for first, later in itertools.combinations(range(5), 2):
            values = list(RIGHT)
            values[first] = None
            values[later] = "x"
            self.assertEqual(told(Sizes, *values), bad(FIELDS[first]))
        self.assertEqual(told(Sizes, 0, 0, 0, 0, -1), bad("length"))
        self.assertEqual(told(Sizes, 8, 32, 4, 1, 1001), bad("spread"))
        self.assertEqual(told(Sizes, 8, 32, 4, 9, 0), bad("places"))

    def test_the_modulus_just_at_and_just_below(self):
        for ring, base, places in ((4, 64, 1), (4, 8, 2), (4, 4, 3), (8, 128, 1), (16, 256, 1), (16, 16, 2),
                                   (16, 4, 4), (32, 512, 1), (32, 8, 3)):
            self.assertEqual(Sizes(1, ring, base, places, 0).modulus, 16 * ring)
            wrong = (1, ring, base // 2, places, 0) if base > 4 else (1, ring, base, places - 1, 0)
            self.assertEqual(told(Sizes, *wrong), bad("modulus"))
        for ring in (4, 8, 16, 32):
            at = 16 * ring
            self.assertEqual(told(Sizes, 1, ring, at // 2, 1, 0), bad("modulus"))
            self.assertEqual(Sizes(1, ring, at, 1, 0).modulus, at)
            self.assertEqual(told(Sizes, 1, ring, 4, 1, 0), bad("modulus"))


class Values(unittest.TestCase):
    def test_least_and_greatest(self):
        least = Sizes(1, 4, 4, 3, 0)
        self.assertEqual([least.modulus, least.eighth, least.limit, least.leading], [64, 8, 0, 0])
        self.assertIs(least.roomy, False)
        most = Sizes(8, 32, 65536, 8, 1000)
        self.assertEqual(most.modulus, 2 ** 128)
        self.assertEqual(most.eighth, 2 ** 125)
        self.assertEqual(most.limit, 8 * 32 * 32768 * 1000 * 17)
        self.assertEqual(most.leading, 8 * 8 * 32768 * 1000)
        self.assertIs(most.roomy, True)

    def test_by_their_meaning(self):
        for n, ring, base, places, e in itertools.product((1, 2, 8), (4, 8, 32), (8, 256), (3, 5), (0, 1, 7, 1000)):
            if base ** places < 16 * ring:
                continue
            sizes = Sizes(n, ring, base, places, e)
            q = base ** places
            limit = places * ring * (base // 2) * e * (2 * n + 1)
            self.assertEqual(sizes.modulus, q)
            self.assertEqual(sizes.eighth, q // 8)
            self.assertEqual(sizes.limit, limit)
            self.assertEqual(sizes.leading, n * places * (base // 2) * e)
            self.assertIs(sizes.roomy, 24 * limit * ring + 2 * q * (n + 1) < q * ring)

    def test_just_roomy_and_just_not(self):
        # With e = 0 it is 2 (n + 1) < N alone; both sides are equal at n = 1, N = 4 and n = 3, N = 8.
        for n, ring, roomy in ((1, 4, False), (1, 8, True), (2, 8, True), (3, 8, False), (4, 8, False),
                               (6, 16, True), (7, 16, False), (8, 16, False), (8, 32, True), (2, 4, False)):
            self.assertIs(Sizes(n, ring, 65536, 2, 0).roomy, roomy, (n, ring))
        # 24 * 8 * W < 2 q here, which is W < q / 96.
        self.assertIs(Sizes(2, 8, 65536, 2, 17).roomy, True)
        self.assertIs(Sizes(2, 8, 65536, 2, 18).roomy, False)
        # 24 * 8 * W < 4 q here, which is 1152 e < 65536.
        self.assertIs(Sizes(1, 8, 65536, 2, 56).roomy, True)
        self.assertIs(Sizes(1, 8, 65536, 2, 57).roomy, False)

    def test_properties_are_properties(self):
        for name in ("modulus", "eighth", "limit", "leading", "roomy"):
            self.assertIsInstance(vars(Sizes)[name], property)

    def test_position_and_name(self):
        self.assertEqual(Sizes(*RIGHT), Sizes(**dict(zip(FIELDS, RIGHT))))
        sizes = Sizes(1, 4, 16, 2, 3)
        self.assertEqual([getattr(sizes, field) for field in FIELDS], [1, 4, 16, 2, 3])


class Comparing(unittest.TestCase):
    def test_equal_in_all_five(self):
        self.assertTrue(Sizes(*RIGHT) == Sizes(*RIGHT))
        self.assertFalse(Sizes(*RIGHT) != Sizes(*RIGHT))
        for at, other in enumerate((3, 16, 32768, 3, 2)):
            values = list(RIGHT)
            values[at] = other
            self.assertFalse(Sizes(*RIGHT) == Sizes(*values))
            self.assertTrue(Sizes(*RIGHT) != Sizes(*values))

    def test_equals_nothing_else(self):
        for other in (None, True, 2, "2 8 65536 2 1", RIGHT, list(RIGHT), {}, Sizes):
            self.assertIs(Sizes(*RIGHT) == other, False)
            self.assertIs(Sizes(*RIGHT) != other, True)

    def test_equal_moduli_are_not_enough(self):
        self.assertNotEqual(Sizes(2, 8, 16, 2, 1), Sizes(2, 8, 256, 1, 1))

    def test_texts(self):
        self.assertEqual(str(Sizes(*RIGHT)), "2 8 65536 2 1")
        self.assertEqual(repr(Sizes(*RIGHT)), "Sizes(2, 8, 65536, 2, 1)")
        self.assertEqual(f"{Sizes(8, 32, 512, 1, 1000)}", "8 32 512 1 1000")
        self.assertEqual(f"{Sizes(8, 32, 512, 1, 1000)!r}", "Sizes(8, 32, 512, 1, 1000)")


if __name__ == "__main__":
    unittest.main()
