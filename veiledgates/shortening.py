"""Shortening: a net with the same outputs and, where it can be, fewer weighings.

Each wire of a net is told by a pair: a wire of the shortened net, and a sign, 1 for its bit and -1 for the other bit.
A weighing takes the other bit of a source by a negated weight, so that such a pair needs no weighing of its own.
What becomes of a weighing has no greater total than it, and its rows have levels that rows of the weighing have; so it
is modest, and allowed, wherever the weighing is.
"""

from veiledgates.nets import CONSTANTS, Net
from veiledgates.weighings import ANSWERS, weighing_of


def _kept_shift(shift):
    """Return the number from -3 to 4 that gives the same levels as a shift."""
    return (shift + 3) % 8 - 3


def _gathered(weights, shift, pairs):
    """Return the sources, their weights and the shift, with each source once and without constants."""
    sums = {}
    for weight, (wire, sign) in zip(weights, pairs):
        if wire < CONSTANTS:
            shift = shift + (weight if wire == 1 else -weight)
        else:
            sums[wire] = sums.get(wire, 0) + sign * weight
    sources = sorted([int(wire) for wire in sums if sums[wire] != 0])
    return sources, [sums[wire] for wire in sources], _kept_shift(shift)


def _is_idle(table, at, many):
    """Tell whether the bit with an index never changes the answer of a row of so many bits."""
    # Two rows that differ in this bit alone stand so far apart.
    apart = 1
    for _ in range(many - 1 - at):
        apart = 2 * apart
    return all([answer == table[place + apart] for place, answer in enumerate(table) if place // apart % 2 == 0])


def _first_idle(table, many):
    for at in range(many):
        if _is_idle(table, at, many):
            return at
    return None


def _reduced(sources, weights, shift):
    """Return the table, the sources, the weights and the shift, without sources that never change the answer."""
    table = weighing_of(weights, shift=shift).table() if weights else ()
    at = _first_idle(table, len(sources))
    if at is None:
        return table, tuple(sources), tuple(weights), shift
    # Such a source may as well be the constant 1.
    more = _kept_shift(shift + weights[at])
    return _reduced(sources[:at] + sources[at + 1:], weights[:at] + weights[at + 1:], more)


class Shortener:
    """The shortened net while it is made, wire by wire of the net."""

    def __init__(self, inputs):
        self._inputs = inputs
        self._steps = []
        # For each wire of the net its pair; constants and inputs are themselves.
        self._pairs = [(wire, 1) for wire in range(CONSTANTS + inputs)]
        # From sources and a table to the pair that is known for them.
        self._known = {}
        # From a wire to a step that gives its other bit, and to the wire where this is placed.
        self._turned = {}
        self._turned_wires = {}

    def _placed(self, step):
        self._steps.append(step)
        return CONSTANTS + self._inputs + len(self._steps) - 1

    def take(self, weighing, sources):
        """Find the pair of the next weighing of the net."""
        pairs = [self._pairs[source] for source in sources]
        wires, weights, shift = _gathered(weighing.weights(), weighing.shift, pairs)
        table, wires, weights, shift = _reduced(wires, weights, shift)
        if not wires:
            self._pairs.append((ANSWERS[shift % 8], 1))
            return
        step = (weighing_of(weights, shift=shift), wires)
        wire, sign = self._pair_of(table, step)
        if sign == -1:
            self._turned.setdefault(wire, step)
        self._pairs.append((wire, sign))

    def _pair_of(self, table, step):
        """Return the pair for a step with a table, which is placed if it is new."""
        _, wires = step
        if len(wires) == 1:
            return wires[0], 1 if table == (0, 1) else -1
        if (wires, table) not in self._known:
            wire = self._placed(step)
            self._known[(wires, table)] = (wire, 1)
            self._known[(wires, tuple([1 - answer for answer in table]))] = (wire, -1)
        return self._known[(wires, table)]

    def output(self, old):
        """Return the wire that has the bit of a wire of the net."""
        wire, sign = self._pairs[old]
        if sign == 1:
            return wire
        # The step that gives the other bit comes from a weighing that was not placed, so there are never more.
        if wire not in self._turned_wires:
            self._turned_wires[wire] = self._placed(self._turned[wire])
        return self._turned_wires[wire]

    def made(self, outputs):
        """Return the net so far, with all that is placed."""
        return Net(self._inputs, self._steps, outputs)


def trimmed(net):
    """Return a net without the weighings that are not needed."""
    wires = {wire: wire for wire in range(net.first_wire())}
    steps = []
    for wire in net.needed():
        steps.append((net.weighing(wire), tuple([wires[source] for source in net.sources(wire)])))
        wires[wire] = net.first_wire() + len(steps) - 1
    return Net(net.inputs, steps, [wires[wire] for wire in net.outputs()])


def shortened(net):
    """Return the shortened net."""
    shortener = Shortener(net.inputs)
    for weighing, sources in net.steps():
        shortener.take(weighing, sources)
    outputs = [shortener.output(wire) for wire in net.outputs()]
    return trimmed(shortener.made(outputs))
