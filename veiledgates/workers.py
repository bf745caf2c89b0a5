"""Workers, who do weighings from known covers without a runner, and how their covers are joined and judged."""

from veiledgates.errors import Clash, NoWire, Unlike
from veiledgates.nets import CONSTANTS
from veiledgates.orders import missing_source, planned, touches_for
from veiledgates.runner import check_allowed, constant_covers, cover_made


def _check_sizes(covers, sizes):
    """Raise Unlike unless all covers of a list have sizes."""
    if not all([cover.sizes == sizes for cover in covers]):
        raise Unlike()


def _check_order(order):
    if not isinstance(order, (list, tuple)):
        raise NoWire(order)


def _ascending(wires):
    """Return the ascending list of the wires in a dict or list."""
    return sorted([int(wire) for wire in wires])


def worked(net, public, known, order):
    """Return the dict from wires to covers that a worker makes who goes through a list of wires from known covers."""
    _check_sizes(list(known.values()), public.sizes)
    check_allowed(net, public.sizes)
    _check_order(order)
    covers = {**known, **constant_covers(public.sizes)}
    wires = planned(net, order, covers, None)
    for wire in wires:
        covers[wire] = cover_made(net, public, wire, covers)
    return {wire: covers[wire] for wire in _ascending(wires)}


def joined(*parts):
    """Return one dict with all wires of dicts."""
    covers = [cover for part in parts for cover in part.values()]
    if covers:
        _check_sizes(covers, covers[0].sizes)
    found = {}
    clashes = []
    for part in parts:
        for wire, cover in part.items():
            # Two covers are unlike exactly if one of them is unlike the first one.
            if found.setdefault(wire, cover) != cover:
                clashes.append(wire)
    if clashes:
        raise Clash(min([int(wire) for wire in clashes]))
    return {wire: found[wire] for wire in _ascending(found)}


def judge(net, public, covers):
    """Return the pair that tells the first wrong wire of a dict of covers, or how many weighings were done anew."""
    _check_sizes(list(covers.values()), public.sizes)
    check_allowed(net, public.sizes)
    wires = _ascending(covers)
    for wire in wires:
        if wire < CONSTANTS or not net.is_wire(wire):
            raise NoWire(wire)
    known = {**covers, **constant_covers(public.sizes)}
    many = 0
    for wire in wires:
        if net.is_weighed(wire) and missing_source(net, wire, known, {}) is None:
            if cover_made(net, public, wire, known) != known[wire]:
                return "wrong", wire
            many += 1
    return "right", many


def touches_of(net, sizes, order):
    """Return the list of the touches that a runner makes who does a list of wires, told without any cover."""
    _check_order(order)
    for item in order:
        if not net.is_weighed(item):
            raise NoWire(item)
    return touches_for(sizes, order)
