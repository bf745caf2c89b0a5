"""Promise 30: words of all widths against plain numbers, with promise 2 for them."""

import itertools
import unittest

from helpers import GREAT, NO_NUMBERS, USUAL, told
from veiledgates.words import Word, bits_of, words_of

WIDTHS = range(1, 9)
NO_LISTS = [None, True, 0, 1, "", "101", {}, {0: 1}, USUAL]
OPERATORS = {
    "+": (lambda a, b: a + b), "-": (lambda a, b: a - b), "&": (lambda a, b: a & b), "|": (lambda a, b: a | b),
    "^": (lambda a, b: a ^ b),
}
ORDERS = [(lambda a, b: a < b), (lambda a, b: a <= b), (lambda a, b: a > b), (lambda a, b: a >= b)]


def some_values(width):
    """All words of small widths, and many of the others."""
    top = 2 ** width
    return range(top) if width < 5 else sorted({0, 1, 2, 3, 5, top // 2 - 1, top // 2, top // 2 + 1, top - 2, top - 1,
                                                top // 3, 2 * top // 3})


def slow_bits(value, width):
    return [int(mark) for mark in reversed(format(value, "b").zfill(width))]


class Making(unittest.TestCase):
    def test_all_words(self):
        for width in WIDTHS:
            for value in range(2 ** width):
                word = Word(value, width)
                self.assertEqual([word.value, word.width, word.bits()], [value, width, slow_bits(value, width)])
                self.assertEqual(repr(word), f"Word({value}, {width})")
                self.assertIs(bool(word), value != 0)
                self.assertEqual(Word.of_bits(word.bits()), word)
                self.assertEqual(Word.of_bits(bits=tuple(word.bits())), word)
        self.assertEqual(Word(value=5, width=3), Word(5, 3))

    def test_wrong_widths(self):
        for wrong in [0, 9, -1, GREAT] + NO_NUMBERS:
            for value in (0, None, -1):
                found = told(Word, value, wrong)
                self.assertEqual(found, ("InvalidNumber", {"value": wrong}))
                self.assertIs(found[1]["value"], wrong)

    def test_wrong_values(self):
        for width in WIDTHS:
            for wrong in [-1, 2 ** width, GREAT, -GREAT] + NO_NUMBERS:
                found = told(Word, wrong, width)
                self.assertEqual(found, ("InvalidNumber", {"value": wrong}))
                self.assertIs(found[1]["value"], wrong)

    def test_equality(self):
        self.assertIs(Word(5, 3) == Word(5, 3), True)
        self.assertIs(Word(5, 3) != Word(5, 3), False)
        for other in (Word(4, 3), Word(5, 4), 5, "5", None, True, [1, 0, 1], (5, 3), USUAL):
            self.assertIs(Word(5, 3) == other, False)
            self.assertIs(Word(5, 3) != other, True)

    def test_bits_are_new(self):
        bits = [1, 0, 1]
        word = Word.of_bits(bits)
        bits[0] = 0
        word.bits().clear()
        self.assertEqual([word, word.bits()], [Word(5, 3), [1, 0, 1]])

    def test_wrong_bits(self):
        for wrong in NO_LISTS + [[], (), [0] * 9, [None] * 9]:
            self.assertEqual(told(Word.of_bits, wrong), ("BadBits", {"at": -1}))
        for wrong in [2, -1, GREAT] + NO_NUMBERS:
            for bits, at in (([wrong], 0), ((1, 0, wrong, wrong), 2), ([0] * 7 + [wrong], 7)):
                self.assertEqual(told(Word.of_bits, bits), ("BadBits", {"at": at}))


class Operators(unittest.TestCase):
    def test_two_words(self):
        for width in WIDTHS:
            top = 2 ** width
            for one, other in itertools.product(some_values(width), repeat=2):
                for sign, call in OPERATORS.items():
                    found = call(Word(one, width), Word(other, width))
                    self.assertEqual(found, Word(call(one, other) % top, width), (sign, one, other))
                for call in ORDERS:
                    self.assertIs(call(Word(one, width), Word(other, width)), call(one, other))

    def test_one_word(self):
        for width in WIDTHS:
            for value in range(2 ** width):
                self.assertEqual(-Word(value, width), Word(-value % 2 ** width, width))
                self.assertEqual(~Word(value, width), Word(2 ** width - 1 - value, width))

    def test_shifts(self):
        for width in WIDTHS:
            for value in some_values(width):
                for by in range(12):
                    self.assertEqual(Word(value, width) << by, Word(value * 2 ** by % 2 ** width, width))
                    self.assertEqual(Word(value, width) >> by, Word(value // 2 ** by, width))
                for by in (64, 999, 10 ** 9, GREAT):
                    self.assertEqual([Word(value, width) << by, Word(value, width) >> by], [Word(0, width)] * 2)

    def test_shifts_below_zero(self):
        for wrong in (-1, -8, -GREAT):
            for call in (lambda: Word(5, 3) << wrong, lambda: Word(5, 3) >> wrong):
                self.assertEqual(told(call), ("InvalidNumber", {"value": wrong}))

    def test_shifts_by_what_is_no_number(self):
        for wrong in NO_NUMBERS:
            for call in (lambda: Word(5, 3) << wrong, lambda: Word(5, 3) >> wrong):
                self.assertEqual(told(call), ("InvalidNumber", {"value": wrong}))

    def test_words_of_unlike_widths(self):
        for one, other in itertools.permutations(WIDTHS, 2):
            for call in list(OPERATORS.values()) + ORDERS:
                self.assertEqual(told(call, Word(1, one), Word(1, other)), ("Unlike", {}))

    def test_what_is_no_word(self):
        for other in NO_NUMBERS + [0, 1, GREAT]:
            for call in list(OPERATORS.values()) + ORDERS:
                self.assertEqual(told(call, Word(1, 3), other)[0], "TypeError")
                self.assertEqual(told(call, other, Word(1, 3))[0], "TypeError")

    def test_words_stay(self):
        one, other = Word(5, 3), Word(6, 3)
        for call in list(OPERATORS.values()) + ORDERS:
            call(one, other)
        self.assertEqual([-one, ~one, one << 1, one >> 1, one, other],
                         [Word(3, 3), Word(2, 3), Word(2, 3), Word(2, 3), Word(5, 3), Word(6, 3)])


class Lists(unittest.TestCase):
    def test_back_and_forth(self):
        for width in WIDTHS:
            for words in ([], [0], [1, 0, 2 ** width - 1], list(some_values(width))):
                bits = bits_of(words, width=width)
                self.assertEqual(bits, [bit for word in words for bit in slow_bits(word, width)])
                self.assertEqual(bits_of(tuple(words), width=width), bits)
                self.assertEqual([words_of(bits, width=width), words_of(tuple(bits), width=width)], [words, words])
        self.assertEqual([bits_of(words=[5], width=3), words_of(bits=[0, 1, 1], width=3)], [[1, 0, 1], [6]])
        self.assertEqual(bits_of([1, 2], width=2), [1, 0, 0, 1])

    def test_lists_stay(self):
        words, bits = [1, 2], [1, 0, 0, 1]
        self.assertIsNot(bits_of(words, width=1 + 1), bits)
        words_of(bits, width=2).clear()
        self.assertEqual([words, bits], [[1, 2], [1, 0, 0, 1]])

    def test_wrong_widths_come_first(self):
        for wrong in [0, 9, -1, GREAT] + NO_NUMBERS:
            for call in (bits_of, words_of):
                for value in (None, [0], ["a"]):
                    found = told(call, value, width=wrong)
                    self.assertEqual(found, ("InvalidNumber", {"value": wrong}))
                    self.assertIs(found[1]["value"], wrong)

    def test_wrong_words(self):
        for wrong in NO_LISTS:
            self.assertEqual(told(bits_of, wrong, width=3), ("BadWords", {"at": -1}))
        for width in WIDTHS:
            for wrong in [-1, 2 ** width, GREAT, Word(0, width)] + NO_NUMBERS:
                for words, at in (([wrong], 0), ((0, 1, wrong, wrong), 2)):
                    self.assertEqual(told(bits_of, words, width=width), ("BadWords", {"at": at}))

    def test_wrong_bits(self):
        for wrong in NO_LISTS:
            self.assertEqual(told(words_of, wrong, width=3), ("BadBits", {"at": -1}))
        for width in range(2, 9):
            for many in (1, width - 1, width + 1, 2 * width - 1):
                self.assertEqual(told(words_of, [None] * many, width=width), ("BadBits", {"at": -1}))
        for wrong in [2, -1, GREAT] + NO_NUMBERS:
            for bits, at in (([wrong, 0], 0), ((0, 1, 0, wrong), 3), ([1, wrong, wrong, 2], 1)):
                self.assertEqual(told(words_of, bits, width=2), ("BadBits", {"at": at}))


if __name__ == "__main__":
    unittest.main()
