"""Promises 31 and 33: the tokens of a line, and when the word `sign` applies."""

import itertools
import random
import re
import unittest

from plainly import tokens_of
from veiledgates.scanning import tokens

SIGNS = list("+-&|^~=<()[],")
RUNS = ["a", "z", "word", "abcdef", "if", "be", "0", "7", "10", "999", "100"]
MARKS = [chr(code) for code in range(128)] + ["\u00e9", "\u0661", "\u00b2", "\u4e2d", "\uff11", "\u2028", "\x85", "\xa0"]


class Tokens(unittest.TestCase):
    def test_single_tokens(self):
        for token in SIGNS + RUNS + ["<<", ">>"]:
            for line in (token, " " + token, token + " ", "   " + token + "  "):
                found = tokens(line)
                self.assertIsInstance(found, list)
                self.assertEqual(found, [token])
        self.assertEqual([tokens(""), tokens(" "), tokens(line="     ")], [[], [], []])

    def test_spaces_between_mean_nothing(self):
        line = ["let", "a", "be", "if", "(", "a", "<", "r", "[", "1", "]", ",", "~", "-", "b", "<<", "12", ",", "0", ")"]
        self.assertEqual(tokens("let a be if(a<r[1],~-b<<12,0)"), line)
        self.assertEqual(tokens(" ".join(line)), line)
        self.assertEqual(tokens("  " + "   ".join(line) + " "), line)

    def test_spaces_part_runs_and_signs(self):
        self.assertEqual([tokens("ab cd"), tokens("abcd"), tokens("1 2"), tokens("12")],
                         [["ab", "cd"], ["abcd"], ["1", "2"], ["12"]])
        self.assertEqual([tokens("< <"), tokens("<<"), tokens("> >")], [["<", "<"], ["<<"], None])
        self.assertEqual([tokens("abcdef ghijkl"), tokens("abcdefghijkl")], [["abcdef", "ghijkl"], None])
        self.assertEqual([tokens("123 456"), tokens("123456"), tokens("0 0"), tokens("00")],
                         [["123", "456"], None, ["0", "0"], None])

    def test_letters_and_figures_side_by_side(self):
        self.assertEqual(tokens("a1b22c333"), ["a", "1", "b", "22", "c", "333"])
        self.assertEqual([tokens("word3"), tokens("3word"), tokens("a0b0")], [["word", "3"], ["3", "word"], ["a", "0", "b", "0"]])
        self.assertEqual(tokens("a01"), None)

    def test_doubled_signs(self):
        self.assertEqual([tokens("<" * many) for many in range(1, 6)],
                         [["<"], ["<<"], ["<<", "<"], ["<<", "<<"], ["<<", "<<", "<"]])
        self.assertEqual([tokens(">" * many) for many in range(1, 6)], [None, [">>"], None, [">>", ">>"], None])
        self.assertEqual([tokens("<>>"), tokens("<<>>"), tokens(">><"), tokens("<>"), tokens("><"), tokens("<<>")],
                         [["<", ">>"], ["<<", ">>"], [">>", "<"], None, None, None])
        for sign in SIGNS:
            if sign != "<":
                self.assertEqual(tokens(sign * 3), [sign] * 3)

    def test_all_pairs_of_signs(self):
        for one, other in itertools.product(SIGNS + ["<<", ">>"], repeat=2):
            self.assertEqual(tokens(one + other), tokens_of(one + other))
            self.assertEqual(tokens(one + " " + other), [one, other])

    def test_long_runs(self):
        for many in range(1, 30):
            self.assertEqual(tokens("a" * many), ["a" * many] if many <= 6 else None)
            self.assertEqual(tokens("(" + "z" * many + ")"), ["(", "z" * many, ")"] if many <= 6 else None)
            self.assertEqual(tokens("9" * many), ["9" * many] if many <= 3 else None)
            self.assertEqual(tokens("x" + "1" * many + "y"), ["x", "1" * many, "y"] if many <= 3 else None)
            self.assertEqual(tokens("0" * many), ["0"] if many == 1 else None)
        self.assertEqual([tokens("01"), tokens("012"), tokens("10"), tokens("100"), tokens("a 09")],
                         [None, None, ["10"], ["100"], None])

    def test_characters_that_begin_no_token(self):
        for mark in MARKS:
            stands = mark == " " or mark in SIGNS or re.fullmatch("[a-z0-9]", mark)
            for line in (mark, "a" + mark, mark + "a", "1 " + mark + " +", "(" + mark + ")"):
                if stands:
                    self.assertEqual(tokens(line), tokens_of(line))
                else:
                    self.assertIsNone(tokens(line), repr(line))

    def test_random_lines(self):
        chance = random.Random(1)
        pieces = SIGNS + RUNS + ["<<", ">>", " ", " ", "  "]
        for _ in range(4000):
            line = "".join(chance.choice(pieces) for _ in range(chance.randrange(12)))
            self.assertEqual(tokens(line), tokens_of(line), line)
        for _ in range(4000):
            line = "".join(chance.choice("ab09 <>+-~[") for _ in range(chance.randrange(9)))
            self.assertEqual(tokens(line), tokens_of(line), line)

    def test_many_tokens(self):
        self.assertEqual(len(tokens("a+" * 30000)), 60000)
        self.assertEqual(tokens(" " * 60000), [])
        self.assertIsNone(tokens("a " * 29999 + "A"))


if __name__ == "__main__":
    unittest.main()
