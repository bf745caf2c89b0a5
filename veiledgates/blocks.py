"""Blocks: what words do, made of gates over their bits. A word is a list of bits, the lowest first."""


class Blocks:
    """The reckoner over words of a width whose bits are those of gates."""

    def __init__(self, gates, width):
        self.gates = gates
        self.width = width

    def number_word(self, value):
        """Return the word of a number."""
        return [(value >> at) & 1 for at in range(self.width)]

    def one_word(self, sign, word):
        """Return what a prefix operator makes of a word."""
        turned = [bit ^ 1 for bit in word]
        return turned if sign == "~" else self.summed_word(self.number_word(0), turned, 1)

    def two_words(self, sign, left, right):
        """Return what an operator makes of two words."""
        pairs = list(zip(left, right))
        if sign == "+":
            return self.summed_word(left, right, 0)
        if sign == "-":
            return self.summed_word(left, [bit ^ 1 for bit in right], 1)
        if sign == "&":
            return [self.gates.both(one, other) for one, other in pairs]
        if sign == "|":
            return [self.gates.either(one, other) for one, other in pairs]
        if sign == "^":
            return [self.gates.odd([one, other]) for one, other in pairs]
        if sign == "=":
            holds = self.any_bit([self.gates.odd([one, other]) for one, other in pairs]) ^ 1
        else:
            holds = self._is_less(pairs)
        return [holds] + [0] * (self.width - 1)

    def summed_word(self, left, right, carry):
        """Return the sum of two words and a carry, which may be words of any width."""
        found = []
        for one, other in zip(left, right):
            found.append(self.gates.odd([one, other, carry]))
            carry = self.gates.most(one, other, carry)
        return found

    def _is_less(self, pairs):
        # The last carry of a difference tells that the left word is not less.
        carry = 1
        for one, other in pairs:
            carry = self.gates.most(one, other ^ 1, carry)
        return carry ^ 1

    def any_bit(self, bits):
        """Return the bit that is 1 if one of some bits is."""
        found = 0
        for bit in bits:
            found = self.gates.either(found, bit)
        return found

    def shifted_word(self, sign, word, by):
        """Return a word shifted by a number."""
        if by >= self.width:
            return self.number_word(0)
        if sign == "<<":
            return [0] * by + word[:self.width - by]
        return word[by:] + [0] * by

    def choice(self, test, yes, no):
        """Return the second word if the first one is yes, and otherwise the third one."""
        return self.chosen_word(self.any_bit(test), yes, no)

    def chosen_word(self, test, yes, no):
        """Return the first word if a bit is 1, and otherwise the second one."""
        return [self.gates.chosen(test, one, other) for one, other in zip(yes, no)]

    def item(self, row, index):
        """Return the word of a row with a word as its index, which may have any width."""
        zero = [0] * self.width
        found = list(row)
        above = []
        for bit in index:
            if len(found) == 1:
                above.append(bit)
                continue
            # Each bit of the index halves what may be chosen.
            halves = list(zip(found[::2], found[1::2] + [zero]))
            found = [self.chosen_word(bit, odd, even) for even, odd in halves]
        return self.chosen_word(self.any_bit(above), zero, found[0])

    def is_at(self, index, at):
        """Return the bit that is 1 if a word is a number."""
        found = 1 if at >> len(index) == 0 else 0
        # The highest bits come first: they are alike for most numbers, and their gates are made once.
        for place in reversed(range(len(index))):
            found = self.gates.both(found, index[place] ^ 1 ^ ((at >> place) & 1))
        return found

    def changed_row(self, row, index, word):
        """Return a row with a word in the place of the one with an index."""
        return [self.chosen_word(self.is_at(index, at), word, old) for at, old in enumerate(row)]
