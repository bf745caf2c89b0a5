"""How the lines of a program are performed, over words of any kind.

What words are, and what becomes of them, is told by a reckoner. It has a method for each kind of step of an expression,
as PlainReckoner has.
"""

from veiledgates.expressions import SHIFTS
from veiledgates.words import Word


class PlainReckoner:
    """The reckoner over plain words of a width."""

    def __init__(self, width):
        self.width = width

    def number_word(self, value):
        """Return the word of a number."""
        return Word(value, self.width)

    def one_word(self, sign, word):
        """Return what a prefix operator makes of a word."""
        return ~word if sign == "~" else -word

    def two_words(self, sign, left, right):
        """Return what an operator makes of two words."""
        if sign == "+":
            return left + right
        if sign == "-":
            return left - right
        if sign == "&":
            return left & right
        if sign == "|":
            return left | right
        if sign == "^":
            return left ^ right
        holds = left == right if sign == "=" else left < right
        return self.number_word(1 if holds else 0)

    def shifted_word(self, sign, word, by):
        """Return a word shifted by a number."""
        return word << by if sign == "<<" else word >> by

    def choice(self, test, yes, no):
        """Return the second word if the first one is yes, and otherwise the third one."""
        return yes if test else no

    def item(self, row, index):
        """Return the word of a row with a word as its index."""
        return row[index.value] if index.value < len(row) else self.number_word(0)

    def changed_row(self, row, index, word):
        """Return a row with a word in the place of the one with an index."""
        return [word if at == index.value else old for at, old in enumerate(row)]


class Performance:
    """The words and rows of a program by their names, while its lines are performed."""

    def __init__(self, lines, inputs, reckoner):
        self._lines = lines
        self._reckoner = reckoner
        names = [line.name for line in lines if line.word == "in"]
        self._words = dict(zip(names, inputs))
        self._rows = {line.name: [reckoner.number_word(0)] * line.number for line in lines if line.word == "row"}

    def _worth(self, steps):
        """Return the word that the steps of an expression give."""
        reckoner = self._reckoner
        stack = []
        for kind, value in steps:
            if kind == "number":
                found = reckoner.number_word(value)
            elif kind == "word":
                found = self._words[value]
            elif kind == "row":
                found = reckoner.item(self._rows[value], stack.pop())
            elif kind == "one":
                found = reckoner.one_word(value, stack.pop())
            elif kind == "two":
                right = stack.pop()
                found = reckoner.two_words(value, stack.pop(), right)
            elif kind in SHIFTS:
                found = reckoner.shifted_word(kind, stack.pop(), value)
            else:
                no = stack.pop()
                yes = stack.pop()
                found = reckoner.choice(stack.pop(), yes, no)
            stack.append(found)
        return stack[0]

    def _performed(self, line):
        """Perform a line let, set or out, and return the word that it tells."""
        worth = self._worth(line.worth)
        if line.word == "let":
            self._words[line.name] = worth
        elif line.word == "set":
            index = self._worth(line.index)
            self._rows[line.name] = self._reckoner.changed_row(self._rows[line.name], index, worth)
        return worth

    def all_told(self):
        """Perform all lines, and return the list of the pairs of a line let, set or out and the word that it tells."""
        told = []
        # The lines times that are open, each with the number of rounds that are to come.
        rounds = []
        at = 0
        while at < len(self._lines):
            line = self._lines[at]
            if line.word == "times":
                rounds.append((at, line.number - 1))
            elif line.word == "end":
                start, more = rounds.pop()
                if more > 0:
                    rounds.append((start, more - 1))
                    at = start
            elif line.word in ("let", "set", "out"):
                told.append((at, self._performed(line)))
            at += 1
        return told
