"""Promise 2: numbers, bits, names and rows of bits."""

import copy
import itertools
import unittest

from helpers import GREAT, NO_NUMBERS, told
from veiledgates.checks import all_rows, check_bits, is_bit, is_name, is_number


class Numbers(unittest.TestCase):
    def test_bounds(self):
        self.assertIs(is_number(3, 3, 5), True)
        self.assertIs(is_number(5, 3, 5), True)
        self.assertIs(is_number(4, 3, 5), True)
        self.assertIs(is_number(2, 3, 5), False)
        self.assertIs(is_number(6, 3, 5), False)
        self.assertIs(is_number(0, -1, 1), True)
        self.assertIs(is_number(4, 5, 3), False)

    def test_great_numbers(self):
        for sign in (1, -1):
            self.assertIs(is_number(sign * GREAT, -GREAT, GREAT), True)
        self.assertIs(is_number(GREAT + 1, -GREAT, GREAT), False)
        self.assertIs(is_number(-GREAT - 1, -GREAT, GREAT), False)

    def test_other_values_are_no_numbers(self):
        for value in NO_NUMBERS:
            self.assertIs(is_number(value, -GREAT, GREAT), False, value)
        self.assertIs(is_number(True, 0, 1), False)
        self.assertIs(is_number(False, 0, 1), False)

    def test_by_name(self):
        self.assertTrue(is_number(value=1, least=0, most=2))
        self.assertTrue(is_number(most=2, value=1, least=0))


class Bits(unittest.TestCase):
    def test_bits(self):
        self.assertIs(is_bit(0), True)
        self.assertIs(is_bit(1), True)
        self.assertIs(is_bit(value=1), True)
        for value in [2, -1, GREAT, -GREAT] + NO_NUMBERS:
            self.assertIs(is_bit(value), False, value)


class Names(unittest.TestCase):
    def test_names(self):
        for value in ("a", "z", "az", "abcdef", "zzzzzz", "word", "if"):
            self.assertIs(is_name(value), True, value)
        self.assertIs(is_name(value="ann"), True)

    def test_no_names(self):
        wrong = ["", "abcdefg", "A", "aB", "a1", "1", "a b", " a", "a ", "a\n", "\n", "`", "{", "a_", "-", "a" * 60000,
                 "\u00e9", "\u00df", "\u03b1"]
        for value in wrong + [None, True, False, 0, 1, GREAT, ("a",), ["a"], ["a", "b"], ("a", "b"), {"a": 1}, (), []]:
            self.assertIs(is_name(value), False, value)


class CheckBits(unittest.TestCase):
    def test_right_rows(self):
        for value in ([], ()):
            self.assertIsNone(check_bits(value, 0))
        for value in ([0, 1, 1], (1, 0, 0)):
            self.assertIsNone(check_bits(value, 3))
        self.assertIsNone(check_bits(value=[1], many=1))

    def test_wrong_lengths_and_kinds(self):
        for value in (None, True, 1, "01", "", {0: 0, 1: 1}, {}, [0], (0, 1, 0), [], [[0, 1]], (2,), [None] * 3):
            self.assertEqual(told(check_bits, value, 2), ("BadBits", {"at": -1}), value)
        self.assertEqual(told(check_bits, {}, 0), ("BadBits", {"at": -1}))
        self.assertEqual(told(check_bits, "", 0), ("BadBits", {"at": -1}))

    def test_first_wrong_item_at_any_place(self):
        for at, wrong in itertools.product(range(4), [2, -1, GREAT] + NO_NUMBERS):
            for kind in (list, tuple):
                row = [0, 1, 0, 1]
                row[at] = wrong
                self.assertEqual(told(check_bits, kind(row), 4), ("BadBits", {"at": at}))
                row[at:] = [wrong] * (4 - at)
                self.assertEqual(told(check_bits, kind(row), 4), ("BadBits", {"at": at}))

    def test_the_value_stays(self):
        row = [0, 1, [True]]
        before = copy.deepcopy(row)
        told(check_bits, row, 3)
        self.assertEqual(row, before)


class AllRows(unittest.TestCase):
    def test_rows(self):
        self.assertEqual(all_rows(0), [()])
        self.assertEqual(all_rows(1), [(0,), (1,)])
        self.assertEqual(all_rows(2), [(0, 0), (0, 1), (1, 0), (1, 1)])
        for many in range(7):
            rows = all_rows(many)
            self.assertEqual(rows, list(itertools.product((0, 1), repeat=many)))
            self.assertEqual(rows, sorted(rows))
            self.assertTrue(all(isinstance(row, tuple) for row in rows))
        self.assertEqual(all_rows(many=1), all_rows(1))

    def test_the_list_is_new(self):
        all_rows(2).append("x")
        all_rows(0).append("x")
        self.assertEqual(len(all_rows(2)), 4)
        self.assertEqual(all_rows(0), [()])


if __name__ == "__main__":
    unittest.main()
