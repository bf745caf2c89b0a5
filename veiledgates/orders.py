"""In which order the weighings of a net are done, and what is touched by it."""

from veiledgates.errors import NoWire, NotReady


def missing_source(net, wire, done, plan):
    """Return the first source of a wire that is in neither of two dicts, or None."""
    for source in net.sources(wire):
        if source not in done and source not in plan:
            return source
    return None


def planned(net, order, done, stop):
    """Return the list of the wires of an order that are to be done, up to a stop, where the keys of a dict are done.

    The order may have any items, and the stop may be None.
    """
    plan = {}
    for item in order:
        if stop is not None and len(plan) >= stop:
            break
        if not net.is_weighed(item):
            raise NoWire(item)
        if item in done or item in plan:
            continue
        missing = missing_source(net, item, done, plan)
        if missing is not None:
            raise NotReady(missing)
        plan[item] = True
    return list(plan)


def touches_for(sizes, wires):
    """Return the list of the touches that doing weighings gives, wire by wire."""
    behind = [("select", at) for at in range(sizes.length)]
    behind.extend([("lead", at, place) for at in range(sizes.ring) for place in range(sizes.places)])
    found = []
    for wire in wires:
        found.append(("weigh", wire))
        found.extend(behind)
    return found
