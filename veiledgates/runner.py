"""Runners, which do the weighings of a net on covers and have no key."""

from veiledgates.checks import is_any_number
from veiledgates.covers import Cover, check_covers
from veiledgates.errors import InvalidNumber, InvalidText, NotAllowed, NotReady, NoWire
from veiledgates.nets import CONSTANTS
from veiledgates.orders import missing_source, planned, touches_for
from veiledgates.reading import split_text
from veiledgates.refreshing import refreshed
from veiledgates.texts import written_number
from veiledgates.weighings import weighted_sum


def check_allowed(net, sizes):
    """Raise NotAllowed unless sizes allow all weighings of a net."""
    refused = net.first_refused_step(sizes)
    if refused is not None:
        wire, row = refused
        raise NotAllowed(wire, row)


def constant_covers(sizes):
    """Return the dict from the wires of the constants to their covers."""
    return {bit: Cover.constant(sizes, bit) for bit in (0, 1)}


def cover_made(net, public, wire, covers):
    """Return the cover of a weighing, made from a dict of covers that has all of its sources."""
    sources = [covers[source] for source in net.sources(wire)]
    return refreshed(public, weighted_sum(net.weighing(wire), sources))


def _read_cover(sizes, text):
    try:
        return Cover.read(sizes, text)
    except InvalidText:
        return None


def _can_follow(net, wire, covers):
    """Tell whether a line with a wire can stand behind the lines of a dict of covers."""
    if len(covers) < net.first_wire():
        return wire == len(covers)
    return net.is_weighed(wire) and missing_source(net, wire, covers, {}) is None


def _read_covers(net, sizes, text):
    """Return the dict from wires, those of the constants first, to the covers that a text tells."""
    lines, rest = split_text(text)
    covers = constant_covers(sizes)
    last = CONSTANTS - 1
    for at, line in enumerate(lines):
        word, _, behind = line.partition(" ")
        wire = written_number(word, last + 1, net.wires - 1)
        cover = _read_cover(sizes, behind)
        if wire is None or cover is None or not _can_follow(net, wire, covers):
            raise InvalidText(at)
        covers[wire] = cover
        last = wire
    if rest or len(lines) < net.inputs:
        raise InvalidText(len(lines))
    return covers


class Runner:
    """A net, public tables, and the covers of the wires that are done."""

    def __init__(self, net, public, covers):
        check_covers(covers, net.inputs, public.sizes)
        check_allowed(net, public.sizes)
        self.sizes = public.sizes
        self.net = net
        self.public = public
        self._covers = constant_covers(public.sizes)
        for at, cover in enumerate(covers):
            self._covers[CONSTANTS + at] = cover
        # The wires that this runner did, in the order in which it did them.
        self._order = []

    @staticmethod
    def resumed(net, public, text):
        """Return a runner with the covers of a text and without touches."""
        covers = _read_covers(net, public.sizes, text)
        runner = Runner(net, public, [covers[wire] for wire in range(CONSTANTS, net.first_wire())])
        runner._covers = covers
        return runner

    @property
    def done(self):
        """The ascending list of the wires of weighings that are done."""
        return [wire for wire in range(self.net.wires - self.net.size, self.net.wires) if wire in self._covers]

    @property
    def left(self):
        """The number of the weighings that are not done."""
        return self.net.wires - len(self._covers)

    def _make(self, wire):
        self._covers[wire] = cover_made(self.net, self.public, wire, self._covers)
        self._order.append(wire)

    def do(self, wire):
        """Do a weighing, and tell whether it was to be done."""
        if not self.net.is_wire(wire):
            raise NoWire(wire)
        if wire in self._covers:
            return False
        missing = missing_source(self.net, wire, self._covers, {})
        if missing is not None:
            raise NotReady(missing)
        self._make(wire)
        return True

    def _items(self, order):
        """Return the list of the items of an order."""
        if order is None:
            return list(range(self.net.first_wire(), self.net.wires))
        if not isinstance(order, (list, tuple)):
            raise NoWire(order)
        return list(order)

    def run(self, *, order=None, stop=None):
        """Do the weighings of an order, or all of them, up to a stop, and return the list of those that were done."""
        if stop is not None and (not is_any_number(stop) or stop < 0):
            raise InvalidNumber(stop)
        # All is planned before anything is done, so that a wrong item changes nothing.
        wires = planned(self.net, self._items(order), self._covers, stop)
        for wire in wires:
            self._make(wire)
        return wires

    def take_back(self, many):
        """Take so many weighings back, the last ones that this runner did."""
        for _ in range(many):
            wire = self._order.pop()
            del self._covers[wire]

    def tried(self, order):
        """Return the dict from the wires of an order, or from all of weighings, to the covers that run would give."""
        items = self._items(order)
        covers = {wire: self._covers[wire] for wire in self._covers}
        for wire in planned(self.net, items, self._covers, None):
            covers[wire] = cover_made(self.net, self.public, wire, covers)
        named = {item: True for item in items}
        return {wire: covers[wire] for wire in range(self.net.first_wire(), self.net.wires) if wire in named}

    def cover(self, wire):
        """Return the cover of a wire that is done."""
        if not self.net.is_wire(wire):
            raise NoWire(wire)
        if wire not in self._covers:
            raise NotReady(wire)
        return self._covers[wire]

    def outputs(self):
        """Return the list of the covers of the outputs."""
        return [self.cover(wire) for wire in self.net.outputs()]

    def covers(self):
        """Return the dict from all wires that are done, but for the constants, ascending, to their covers."""
        return {wire: self._covers[wire] for wire in range(CONSTANTS, self.net.wires) if wire in self._covers}

    def touches(self):
        """Return the list of the touches, in the order in which they were done."""
        return touches_for(self.sizes, self._order)

    def text(self):
        """Return a line with the wire and its cover for each input and each weighing that is done."""
        covers = self.covers()
        return "".join([f"{wire} {covers[wire].text()}\n" for wire in covers])

    def twin(self):
        """Return an independent runner in the same state."""
        inputs = [self._covers[wire] for wire in range(CONSTANTS, self.net.first_wire())]
        other = Runner(self.net, self.public, inputs)
        other._covers = {wire: self._covers[wire] for wire in self._covers}
        other._order = list(self._order)
        return other

    def __repr__(self):
        return f"Runner({len(self.done)} of {self.net.size} done)"
