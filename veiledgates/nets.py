"""Nets: weighings in an order, each of which has earlier wires as its sources."""

from veiledgates.checks import check_bits, is_number
from veiledgates.errors import BadNet, BadOutput, BadWeighing, InvalidNumber, InvalidText, NoWire, TooMany
from veiledgates.reading import split_text
from veiledgates.texts import spaced, written_number, written_numbers
from veiledgates.weighings import MOST_SHIFT, MOST_TOTAL, Weighing, weighing_of

MOST_INPUTS = 64

# The wires 0 and 1 are the constants; the inputs begin behind them.
CONSTANTS = 2


def _fits(step, wire):
    """Tell whether any value is a step of a net for a wire."""
    if not isinstance(step, tuple) or len(step) != 2:
        return False
    weighing, sources = step
    if not isinstance(weighing, Weighing) or not weighing.is_total():
        return False
    if not isinstance(sources, tuple) or len(sources) != len(weighing.weights()):
        return False
    return all([is_number(source, 0, wire - 1) for source in sources])


def _check_steps(inputs, steps):
    if not isinstance(steps, (list, tuple)):
        raise BadNet(-1)
    for at, step in enumerate(steps):
        wire = CONSTANTS + inputs + at
        if not _fits(step, wire):
            raise BadNet(wire)


def _check_outputs(wires, outputs):
    if not isinstance(outputs, (list, tuple)):
        raise BadOutput(-1)
    for at, wire in enumerate(outputs):
        if not is_number(wire, 0, wires - 1):
            raise BadOutput(at)


def _depths_of(inputs, steps):
    """Return the list of the depths of all wires."""
    depths = [0] * (CONSTANTS + inputs)
    for _, sources in steps:
        depths.append(1 + max([int(depths[source]) for source in sources]))
    return depths


def _read_inputs(line):
    """Return the number of inputs that the first line of a text tells, or None."""
    words = line.split(" ")
    if len(words) != 2 or words[0] != "net":
        return None
    return written_number(words[1], 0, MOST_INPUTS)


def _read_step(line, wire):
    """Return the step for a wire that a line tells, or None."""
    words = line.split(" ")
    if words[0] != "weigh" or len(words) % 2 != 0:
        return None
    shift = written_number(words[1], -MOST_SHIFT, MOST_SHIFT)
    weights = written_numbers(words[2::2], -MOST_TOTAL, MOST_TOTAL)
    sources = written_numbers(words[3::2], 0, wire - 1)
    if shift is None or weights is None or sources is None:
        return None
    try:
        weighing = weighing_of(weights, shift=shift)
    except (BadWeighing, TooMany):
        return None
    return (weighing, tuple(sources)) if weighing.is_total() else None


def _read_outputs(line, wires):
    """Return the list of the outputs that a line tells, or None."""
    words = line.split(" ")
    return written_numbers(words[1:], 0, wires - 1) if words[0] == "outputs" else None


class Net:
    """A net; it never changes."""

    def __init__(self, inputs, steps, outputs):
        if not is_number(inputs, 0, MOST_INPUTS):
            raise InvalidNumber(inputs)
        _check_steps(inputs, steps)
        _check_outputs(CONSTANTS + inputs + len(steps), outputs)
        self.inputs = inputs
        self._steps = list(steps)
        self._outputs = list(outputs)
        self._depths = _depths_of(inputs, steps)

    @staticmethod
    def read(text):
        """Return the net that has a text."""
        lines, rest = split_text(text)
        inputs = _read_inputs(lines[0]) if lines else None
        if inputs is None:
            raise InvalidText(0)
        steps = []
        for line in lines[1:]:
            wire = CONSTANTS + inputs + len(steps)
            outputs = _read_outputs(line, wire)
            if outputs is not None:
                break
            step = _read_step(line, wire)
            if step is None:
                raise InvalidText(len(steps) + 1)
            steps.append(step)
        else:
            raise InvalidText(len(lines))
        # Behind the line of the outputs nothing can stand.
        if rest or len(lines) > len(steps) + 2:
            raise InvalidText(len(steps) + 2)
        return Net(inputs, steps, outputs)

    @property
    def size(self):
        """The number of weighings."""
        return len(self._steps)

    @property
    def wires(self):
        """The number of all wires."""
        return len(self._depths)

    def steps(self):
        """Return the list of the pairs of a weighing and the tuple of its sources."""
        return list(self._steps)

    def outputs(self):
        """Return the list of the outputs."""
        return list(self._outputs)

    def first_wire(self):
        """Return the wire that the first weighing has, or would have."""
        return CONSTANTS + self.inputs

    def is_wire(self, value):
        """Tell whether any value is a wire."""
        return is_number(value, 0, self.wires - 1)

    def is_weighed(self, value):
        """Tell whether any value is a wire of a weighing."""
        return is_number(value, self.first_wire(), self.wires - 1)

    def _step(self, wire):
        if not self.is_weighed(wire):
            raise NoWire(wire)
        return self._steps[wire - self.first_wire()]

    def weighing(self, wire):
        """Return the weighing of a wire."""
        weighing, _ = self._step(wire)
        return weighing

    def sources(self, wire):
        """Return the tuple of the sources of a wire."""
        _, sources = self._step(wire)
        return sources

    def depth(self, wire):
        """Return the depth of a wire."""
        if not self.is_wire(wire):
            raise NoWire(wire)
        return self._depths[wire]

    def plain(self, bits):
        """Return the list of the plain values of the outputs for input bits."""
        values = self.plain_wires(bits)
        return [values[wire] for wire in self._outputs]

    def plain_wires(self, bits):
        """Return the list of the plain values of all wires for input bits."""
        check_bits(bits, self.inputs)
        values = [0, 1, *bits]
        for weighing, sources in self._steps:
            values.append(weighing.answer([values[source] for source in sources]))
        return values

    def needed(self):
        """Return the ascending list of the needed wires of weighings."""
        marked = [False] * self.wires
        for wire in self._outputs:
            marked[wire] = True
        weighed = range(self.first_wire(), self.wires)
        # All sources of a wire stand ahead of it, so one way back marks all that is needed.
        for wire in reversed(weighed):
            if marked[wire]:
                for source in self.sources(wire):
                    marked[source] = True
        return [wire for wire in weighed if marked[wire]]

    def lots(self):
        """Hand out the ascending lists of the wires of weighings with one depth, for each depth from 1 on."""
        groups = {}
        for wire in range(self.first_wire(), self.wires):
            groups.setdefault(self._depths[wire], []).append(wire)
        # A wire of a depth has a source of the depth below it, so no depth is left out.
        for depth in range(1, len(groups) + 1):
            yield groups[depth]

    def first_refused_step(self, sizes):
        """Return the pair of the first wire whose weighing sizes refuse and its first refused row, or None."""
        allowed = {}
        for at, (weighing, _) in enumerate(self._steps):
            # Long nets have few weighings that are not equal, and each of those is judged once.
            numbers = (tuple(weighing.weights()), weighing.shift)
            if numbers not in allowed:
                row = weighing.first_refused(sizes)
                if row is not None:
                    return self.first_wire() + at, row
                allowed[numbers] = True
        return None

    def allowed(self, sizes):
        """Tell whether sizes allow all weighings."""
        return self.first_refused_step(sizes) is None

    def is_modest(self):
        """Tell whether all weighings are modest."""
        return all([weighing.is_modest() for weighing, _ in self._steps])

    def text(self):
        """Return the line of the inputs, a line for each weighing, and the line of the outputs."""
        lines = [f"net {self.inputs}"]
        for weighing, sources in self._steps:
            numbers = [weighing.shift]
            for weight, source in zip(weighing.weights(), sources):
                numbers.extend([weight, source])
            lines.append(f"weigh {spaced(numbers)}")
        # Without any output there is no space behind the word.
        lines.append(spaced(["outputs", *self._outputs]))
        return "".join([f"{line}\n" for line in lines])

    def __eq__(self, other):
        return (
            isinstance(other, Net)
            and self.inputs == other.inputs
            and self._steps == other._steps
            and self._outputs == other._outputs
        )

    def __str__(self):
        return f"{self.text()}"

    def __repr__(self):
        return f"Net({self.inputs} inputs, {len(self._steps)} weighings, {len(self._outputs)} outputs)"
