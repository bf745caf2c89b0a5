"""Keys: what is drawn under them, and what they tell of covers."""

from veiledgates.checks import check_alike, check_bits, is_bit, is_number
from veiledgates.covers import Cover
from veiledgates.errors import BadBits, InvalidNumber
from veiledgates.polys import Poly
from veiledgates.reading import head_sizes, rows_below_head, split_text
from veiledgates.residues import centered
from veiledgates.rings import RingCover
from veiledgates.tables import Public, Selector, Switch
from veiledgates.texts import spaced

# A switch leads from at most so many bits, as no polynomial has more numbers.
MOST_BITS = 32


def _drawn_row(sizes, many, draws):
    return [draws.residue(sizes) for _ in range(many)]


def _drawn_bits(sizes, many, draws):
    return [residue % 2 for residue in _drawn_row(sizes, many, draws)]


def _scales(sizes):
    """Return the list of the powers of B from 0 to l - 1."""
    scales = [1]
    for _ in range(sizes.places - 1):
        scales.append(scales[-1] * sizes.base)
    return scales


class Key:
    """A key: the bits s and the polynomial z; it never changes."""

    def __init__(self, sizes, bits, poly_bits):
        check_bits(bits, sizes.length)
        check_bits(poly_bits, sizes.ring)
        self.sizes = sizes
        self._bits = list(bits)
        self._poly = Poly(sizes, poly_bits)

    @staticmethod
    def drawn(sizes, *, draws):
        """Return a drawn key."""
        bits = _drawn_bits(sizes, sizes.length, draws)
        poly_bits = _drawn_bits(sizes, sizes.ring, draws)
        return Key(sizes, bits, poly_bits)

    @staticmethod
    def read(text):
        """Return the key that has a text."""
        lines, rest = split_text(text)
        sizes = head_sizes(lines, "key")
        bits, poly_bits = rows_below_head(lines, rest, [sizes.length, sizes.ring], 1)
        return Key(sizes, bits, poly_bits)

    def bits(self):
        """Return the list of the n bits of s."""
        return list(self._bits)

    def poly_bits(self):
        """Return the list of the N bits of z."""
        return self._poly.numbers()

    def text(self):
        """Return the lines of the sizes, of the bits of s and of those of z."""
        return f"key {self.sizes}\n{spaced(self._bits)}\n{spaced(self.poly_bits())}\n"

    def _part_of(self, mask):
        """Return the sum of the numbers of a mask for which the key has the bit 1."""
        return sum([number * bit for number, bit in zip(mask, self._bits)])

    def cover_of(self, number, *, draws):
        """Return a drawn cover of the residue of a number."""
        mask = _drawn_row(self.sizes, self.sizes.length, draws)
        noise = draws.noise(self.sizes)
        return Cover(self.sizes, mask, self._part_of(mask) + number + noise)

    def fresh(self, bit, *, draws):
        """Return a drawn cover of the level of a bit."""
        if not is_bit(bit):
            raise InvalidNumber(bit)
        return self.cover_of(self.sizes.eighth if bit == 1 else -self.sizes.eighth, draws=draws)

    def ring_zero(self, *, draws):
        """Return a drawn ring cover of zero."""
        first = Poly(self.sizes, _drawn_row(self.sizes, self.sizes.ring, draws))
        noises = Poly(self.sizes, [draws.noise(self.sizes) for _ in range(self.sizes.ring)])
        return RingCover(first, first * self._poly + noises)

    def selector_of(self, bit, *, draws):
        """Return a drawn selector of a bit."""
        if not is_bit(bit):
            raise InvalidNumber(bit)
        pairs = []
        for scale in _scales(self.sizes):
            added = Poly.one_number(self.sizes, bit * scale)
            one = self.ring_zero(draws=draws)
            other = self.ring_zero(draws=draws)
            pairs.append((RingCover(one.first + added, one.second), RingCover(other.first, other.second + added)))
        return Selector(pairs)

    def switch_from(self, bits, *, draws):
        """Return a drawn switch from a row of bits to this key."""
        if not isinstance(bits, (list, tuple)) or len(bits) > MOST_BITS:
            raise BadBits(-1)
        check_bits(bits, len(bits))
        scales = _scales(self.sizes)
        covers = [self.cover_of(bit * scale, draws=draws) for bit in bits for scale in scales]
        return Switch(self.sizes, covers)

    def public_tables(self, *, draws):
        """Return drawn public tables: the selectors of s, and then the switch from z."""
        selectors = [self.selector_of(bit, draws=draws) for bit in self._bits]
        switch = self.switch_from(self.poly_bits(), draws=draws)
        return Public(selectors, switch)

    def phase(self, cover):
        """Return the phase of a cover."""
        check_alike(self, cover)
        return centered(cover.body - self._part_of(cover.mask()), self.sizes)

    def opened(self, cover):
        """Return the bit to which a cover opens."""
        return 1 if self.phase(cover) >= 0 else 0

    def noise_at(self, cover, level):
        """Return the noise with which a cover stands for a level."""
        phase = self.phase(cover)
        if not is_number(level, 0, 7):
            raise InvalidNumber(level)
        return abs(centered(phase - level * self.sizes.eighth, self.sizes))

    def ring_phase(self, ring):
        """Return the polynomial that is the phase of a ring cover."""
        check_alike(self, ring)
        return ring.second - ring.first * self._poly

    def __eq__(self, other):
        return (
            isinstance(other, Key)
            and self.sizes == other.sizes
            and self._bits == other._bits
            and self._poly == other._poly
        )
