"""Gates: a net while it is made, gate by gate, of weighings that are modest.

A bit of the net is told by a number: twice its wire, or 1 more for the other bit. So 0 and 1 are the constants, and a
bit ^ 1 is the other bit of a bit, for which a weighing needs a negated weight alone. Gates whose answer is known, or
that were made before, are not made again.
"""

from veiledgates.nets import CONSTANTS, Net
from veiledgates.shortening import trimmed
from veiledgates.weighings import standard, weighing_of

# A shift by so many levels gives each row the other answer, with the same margin.
HALF_TURN = 4


class Gates:
    """The weighings of a net so far."""

    def __init__(self, inputs):
        self._inputs = inputs
        self._steps = []
        # From the word of a gate and its bits to the bit that it gives; for the word `other`, to a wire.
        self._known = {}

    def input_bits(self):
        """Return the list of the bits of the inputs."""
        return [2 * (CONSTANTS + at) for at in range(self._inputs)]

    def _placed(self, step):
        self._steps.append(step)
        return CONSTANTS + self._inputs + len(self._steps) - 1

    def _gate(self, word, bits):
        """Return the bit that a standard weighing gives for ascending bits of different wires without constants."""
        key = (word, tuple(bits))
        if key not in self._known:
            weighing = standard(word)
            weights = [-weight if bit & 1 else weight for weight, bit in zip(weighing.weights(), bits)]
            step = (weighing_of(weights, shift=weighing.shift), tuple([bit // 2 for bit in bits]))
            self._known[key] = 2 * self._placed(step)
        return self._known[key]

    def both(self, one, other):
        """Return the bit that is 1 if both bits are."""
        low, high = (one, other) if one < other else (other, one)
        if low == 0 or (low ^ high) == 1:
            return 0
        if low == 1 or low == high:
            return high
        return self._gate("and", [low, high])

    def either(self, one, other):
        """Return the bit that is 1 if one of two bits is, or both are."""
        return self.both(one ^ 1, other ^ 1) ^ 1

    def odd(self, bits):
        """Return the bit that is 1 if an odd number of up to three bits are."""
        # Two equal bits take each other away, and other bits only turn the answer.
        turned = 0
        kept = []
        for bit in bits:
            turned = turned ^ (bit & 1)
            even = bit - (bit & 1)
            if even in kept:
                kept.remove(even)
            elif even > 0:
                kept.append(even)
        if not kept:
            return turned
        if len(kept) == 1:
            return turned ^ kept[0]
        return turned ^ self._gate("xor" if len(kept) == 2 else "odd", sorted([int(bit) for bit in kept]))

    def most(self, one, two, three):
        """Return the bit that is 1 if at least two of three bits are."""
        low, middle, high = sorted([int(one), int(two), int(three)])
        # Equal bits, and a bit and its other bit, stand side by side now.
        if low == middle or middle == high:
            return middle
        if (low ^ middle) == 1:
            return high
        if (middle ^ high) == 1:
            return low
        if low < 2:
            return self.either(middle, high) if low == 1 else self.both(middle, high)
        # The other bits of all three give the other bit: one of the two ways is made.
        turned = low & 1
        return turned ^ self._gate("more", [low ^ turned, middle ^ turned, high ^ turned])

    def chosen(self, test, yes, no):
        """Return the second bit if the first one is 1, and otherwise the third one."""
        # Here one weighing is enough.
        if no < 2 or (no ^ test) < 2:
            return self.both(test, yes) if no in (0, test) else self.either(test ^ 1, yes)
        # If the two bits are unlike, the first of these three is the chosen one; otherwise it does not count.
        return self.most(self.odd([test, yes]) ^ 1, yes, no)

    def _other_step(self, wire):
        """Return the step that gives the other bit of a wire."""
        first = CONSTANTS + self._inputs
        weighing, sources = self._steps[wire - first] if wire >= first else (standard("same"), (wire,))
        return weighing_of(weighing.weights(), shift=weighing.shift + HALF_TURN), sources

    def _output(self, bit):
        """Return the wire that has a bit."""
        if bit < 2:
            return bit
        if (bit & 1) == 0:
            return bit // 2
        key = ("other", (bit,))
        if key not in self._known:
            self._known[key] = self._placed(self._other_step(bit // 2))
        return self._known[key]

    def net_with(self, bits):
        """Return the net that has bits as its outputs, and no weighing that is not needed."""
        outputs = [self._output(bit) for bit in bits]
        return trimmed(Net(self._inputs, self._steps, outputs))
