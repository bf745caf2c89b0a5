"""Words: numbers of a width, reckoned with modulo its power of two, and their bits, the lowest first."""

from veiledgates.checks import check_bits, is_any_number, is_number
from veiledgates.errors import BadBits, BadWords, InvalidNumber, Unlike

MOST_WIDTH = 8


def is_width(value):
    """Tell whether any value is a width of words."""
    return is_number(value, 1, MOST_WIDTH)


def is_word(value, width):
    """Tell whether any value is a number that is a word of a width."""
    return is_number(value, 0, (1 << width) - 1)


def check_words(value, many, width):
    """Raise BadWords unless a value is a list or tuple of so many words of a width."""
    if not isinstance(value, (list, tuple)) or len(value) != many:
        raise BadWords(-1)
    for at, item in enumerate(value):
        if not is_word(item, width):
            raise BadWords(at)


def _bits_of_word(value, width):
    return [(value >> at) & 1 for at in range(width)]


def _word_of_bits(bits):
    value = 0
    for bit in reversed(bits):
        value = 2 * value + bit
    return value


def _check_shift(by):
    if not is_any_number(by) or by < 0:
        raise InvalidNumber(by)


class Word:
    """A word; it never changes."""

    def __init__(self, value, width):
        if not is_width(width):
            raise InvalidNumber(width)
        if not is_word(value, width):
            raise InvalidNumber(value)
        self.value = value
        self.width = width

    @staticmethod
    def of_bits(bits):
        """Return the word with bits, the lowest first."""
        if not isinstance(bits, (list, tuple)) or not is_width(len(bits)):
            raise BadBits(-1)
        check_bits(bits, len(bits))
        return Word(_word_of_bits(bits), len(bits))

    def bits(self):
        """Return the list of the bits, the lowest first."""
        return _bits_of_word(self.value, self.width)

    def _reduced(self, number):
        """Return the word of the same width that a number is, modulo the power of two."""
        return Word(number & ((1 << self.width) - 1), self.width)

    def _check_width(self, other):
        if self.width != other.width:
            raise Unlike()

    def __add__(self, other):
        if not isinstance(other, Word):
            return NotImplemented
        self._check_width(other)
        return self._reduced(self.value + other.value)

    def __sub__(self, other):
        if not isinstance(other, Word):
            return NotImplemented
        self._check_width(other)
        return self._reduced(self.value - other.value)

    def __and__(self, other):
        if not isinstance(other, Word):
            return NotImplemented
        self._check_width(other)
        return self._reduced(self.value & other.value)

    def __or__(self, other):
        if not isinstance(other, Word):
            return NotImplemented
        self._check_width(other)
        return self._reduced(self.value | other.value)

    def __xor__(self, other):
        if not isinstance(other, Word):
            return NotImplemented
        self._check_width(other)
        return self._reduced(self.value ^ other.value)

    def __neg__(self):
        return self._reduced(-self.value)

    def __invert__(self):
        return self._reduced(~self.value)

    def __lshift__(self, by):
        _check_shift(by)
        # A great shift is not done: the number that it gives would be too long.
        return self._reduced(self.value << by if by < self.width else 0)

    def __rshift__(self, by):
        _check_shift(by)
        return self._reduced(self.value >> by if by < self.width else 0)

    def __lt__(self, other):
        if not isinstance(other, Word):
            return NotImplemented
        self._check_width(other)
        return self.value < other.value

    def __le__(self, other):
        if not isinstance(other, Word):
            return NotImplemented
        self._check_width(other)
        return self.value <= other.value

    def __gt__(self, other):
        if not isinstance(other, Word):
            return NotImplemented
        self._check_width(other)
        return self.value > other.value

    def __ge__(self, other):
        if not isinstance(other, Word):
            return NotImplemented
        self._check_width(other)
        return self.value >= other.value

    def __bool__(self):
        return bool(self.value)

    def __eq__(self, other):
        return isinstance(other, Word) and self.value == other.value and self.width == other.width

    def __repr__(self):
        return f"Word({self.value}, {self.width})"


def bits_of(words, *, width):
    """Return the list of the bits of all words of a list, one behind the other."""
    if not is_width(width):
        raise InvalidNumber(width)
    if not isinstance(words, (list, tuple)):
        raise BadWords(-1)
    check_words(words, len(words), width)
    return [bit for word in words for bit in _bits_of_word(word, width)]


def words_of(bits, *, width):
    """Return the list of the words that have bits."""
    if not is_width(width):
        raise InvalidNumber(width)
    if not isinstance(bits, (list, tuple)) or len(bits) % width != 0:
        raise BadBits(-1)
    check_bits(bits, len(bits))
    return [_word_of_bits(bits[at:at + width]) for at in range(0, len(bits), width)]
