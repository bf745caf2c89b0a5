"""Promise 19: the best weighing for a table, and why there is none, with promise 2 for them."""

import itertools
import unittest
from fractions import Fraction

from helpers import GREAT, NO_NUMBERS, USUAL, told
from veiledgates.finding import best_weighing, refusal
from veiledgates.weighings import Weighing, standard

ANSWERS = {1: 1, 2: 1, 3: 1, 5: 0, 6: 0, 7: 0}
MARGINS = {1: 1, 2: 2, 3: 1, 5: 1, 6: 2, 7: 1}
MANY = {2: 1, 4: 2, 8: 3}


def candidates(many, most):
    """All candidates, ascending, each with its weights, its shift and the levels of its rows."""
    weights = [w for w in range(-most, most + 1) if w]
    rows = list(itertools.product((0, 1), repeat=many))
    found = []
    for row_of_weights in itertools.product(weights, repeat=many):
        for shift in range(-3, 5):
            levels = [(sum(w if bit else -w for w, bit in zip(row_of_weights, row)) + shift) % 8 for row in rows]
            found.append((row_of_weights, shift, levels))
    return sorted(found)


CANDIDATES = {(many, most): candidates(many, most) for many in (1, 2, 3) for most in (1, 2, 3)}


def plain_best(table, most):
    """The weights and the shift of the best weighing, by a plain search over all candidates."""
    found = []
    for weights, shift, levels in CANDIDATES[MANY[len(table)], most]:
        if [ANSWERS.get(level) for level in levels] == list(table):
            total = sum(map(abs, weights))
            ratio = Fraction(min(MARGINS[level] for level in levels), total)
            found.append((-ratio, total, (weights, shift)))
    return min(found)[2] if found else None


def plain_refusal(table, most):
    rows = list(itertools.product((0, 1), repeat=MANY[len(table)]))
    found = []
    for weights, shift, levels in CANDIDATES[MANY[len(table)], most]:
        unlike = [row for row, level, item in zip(rows, levels, table) if ANSWERS.get(level) != item]
        if not unlike:
            return None
        found.append((weights, shift, unlike[0]))
    return found


def all_tables(items):
    return list(itertools.product((0, 1), repeat=items))


class Best(unittest.TestCase):
    def test_against_a_plain_search(self):
        tables = all_tables(2) + all_tables(4) + all_tables(8)
        there = {most: 0 for most in (1, 2, 3)}
        for table in tables:
            for most in (1, 2, 3) if len(table) < 8 else (1, 2):
                self.compare(table, most, there)
        for table in all_tables(8)[::5] + [(0, 0, 0, 1, 0, 1, 1, 1), (0, 1, 1, 0, 1, 0, 0, 1)]:
            self.compare(table, 3, there)
        self.assertTrue(all(there.values()))

    def compare(self, table, most, there):
        best, wanted = best_weighing(table, most=most), plain_best(table, most)
        if wanted is None:
            self.assertIsNone(best, table)
        else:
            there[most] += 1
            self.assertIsInstance(best, Weighing)
            self.assertEqual((tuple(best.weights()), best.shift), wanted)
            self.assertEqual(best.table(), table)

    def test_by_hand(self):
        self.assertEqual(best_weighing((0, 0, 0, 1), most=1), Weighing(-1, -1, shift=-3))
        # The shift 4 turns all answers, so the weight -1 can tell the bit itself, and it comes ahead of 1.
        self.assertEqual(best_weighing((0, 1), most=1), Weighing(-1, shift=4))
        self.assertEqual(best_weighing((1, 0), most=1), Weighing(-1))
        self.assertEqual(best_weighing((0, 1, 1, 0), most=1), None)
        self.assertEqual(best_weighing((0, 1, 1, 0), most=2), Weighing(-2, -2, shift=2))
        self.assertEqual(best_weighing((0, 0, 0, 1, 1, 0, 1, 0), most=3), None)
        # A constant table has the least total, and a margin of 2 is better than one of 1.
        self.assertEqual(best_weighing((1, 1), most=3), Weighing(-1, shift=2))

    def test_tables_of_standard_weighings(self):
        for word, most in (("same", 1), ("and", 1), ("or", 1), ("xor", 2), ("more", 1), ("odd", 2)):
            self.assertEqual(best_weighing(standard(word).table(), most=most).table(), standard(word).table())

    def test_tables_may_be_lists(self):
        table = [0, 0, 0, 1]
        self.assertEqual(best_weighing(table=table, most=1), Weighing(-1, -1, shift=-3))
        self.assertEqual(table, [0, 0, 0, 1])
        self.assertIsNone(refusal(table=table, most=1))


class Refusals(unittest.TestCase):
    def test_against_a_plain_search(self):
        cases = [(table, most) for table in all_tables(2) + all_tables(4) for most in (1, 2, 3)]
        cases += [(table, most) for table in all_tables(8)[::3] for most in (1, 2)]
        cases += [(table, 3) for table in all_tables(8)[::17]]
        for table, most in cases:
            found = refusal(table, most=most)
            self.assertEqual(found, plain_refusal(table, most))
            self.assertIs(found is None, best_weighing(table, most=most) is not None)

    def test_by_hand(self):
        found = refusal((0, 1, 1, 0), most=1)
        self.assertIsInstance(found, list)
        self.assertEqual(len(found), 2 * 2 * 8)
        self.assertEqual(found[:3], [((-1, -1), -3, (0, 1)), ((-1, -1), -2, (0, 0)), ((-1, -1), -1, (0, 0))])
        self.assertEqual(found[-1], ((1, 1), 4, (0, 0)))
        self.assertEqual(len(refusal((0, 0, 0, 1, 1, 0, 1, 0), most=3)), 6 ** 3 * 8)
        # A row without an answer is not as in the table.
        self.assertIn(((1, 1), 0, (0, 1)), found)

    def test_results_are_new(self):
        found = refusal((0, 1, 1, 0), most=1)
        found.clear()
        self.assertEqual(len(refusal((0, 1, 1, 0), most=1)), 32)


class Wrong(unittest.TestCase):
    def test_tables(self):
        for call in (best_weighing, refusal):
            for wrong in [None, True, 2, "01", "0110", {0: 0, 1: 1}, [], (), [0], [0] * 3, (1,) * 5, [0] * 7, [0] * 16,
                          [None] * 6, USUAL]:
                self.assertEqual(told(call, wrong, most=1), ("BadTable", {"at": -1}), wrong)
                self.assertEqual(told(call, wrong, most=None), ("BadTable", {"at": -1}), wrong)

    def test_items(self):
        for call in (best_weighing, refusal):
            for many in (2, 4, 8):
                for at in range(many):
                    for wrong in [2, -1, GREAT] + NO_NUMBERS:
                        row = [1] * at + [wrong] * (many - at)
                        self.assertEqual(told(call, row, most=9), ("BadTable", {"at": at}))
                        self.assertEqual(told(call, tuple(row), most=1), ("BadTable", {"at": at}))

    def test_numbers(self):
        for call in (best_weighing, refusal):
            for wrong in [0, 4, -1, GREAT, -GREAT] + NO_NUMBERS:
                found = told(call, (0, 1), most=wrong)
                self.assertEqual(found, ("InvalidNumber", {"value": wrong}))
                self.assertIs(found[1]["value"], wrong)


if __name__ == "__main__":
    unittest.main()
