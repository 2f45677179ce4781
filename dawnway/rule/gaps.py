"""What bars a table from being closed: rows that are told or made, and not covered."""

from dawnway.rule.rules import is_covered, make_row


def told_fault(net, bounds, waits):
    """The first told word whose row is not covered, or None."""
    for word in net.told:
        if not _is_there(bounds, waits, net.row(word)):
            return "told", word
    return None


def made_fault(net, bounds, waits):
    """The least one, in Python's order, of the makings of rows that are not covered, or None."""
    fault = None
    for rule in ("both", "early", "first"):
        if fault is None:
            fault = _single_fault(net, bounds, waits, rule)
    if fault is None:
        fault = _joined_fault(bounds)
    if fault is None:
        fault = _late_fault(net, bounds, waits)
    if fault is None:
        fault = _single_fault(net, bounds, waits, "sure")
    return fault


def _is_there(bounds, waits, row):
    """Whether the row is covered by one of the table, or is a bound of one event that says nothing."""
    kind, one, other, number = row
    if kind == "bound" and one == other:
        return number >= 0
    rows = bounds if kind == "bound" else waits
    return (one, other) in rows and is_covered((kind, one, other, rows[(one, other)]), row)


def _single_fault(net, bounds, waits, rule):
    """The first fault of a rule that takes one row."""
    kind = "bound" if rule in ("early", "first") else "wait"
    rows = bounds if kind == "bound" else waits
    for one, other in sorted(rows):
        row = (kind, one, other, rows[(one, other)])
        new = make_row(net, rule, (row,))
        if new is not None and not _is_there(bounds, waits, new):
            return "made", rule, row
    return None


def _joined_fault(bounds):
    """The first fault of `joined`. Of all rules it has the most pairs of rows: they are not made one by one."""
    exits = _by_first(bounds)
    for one, mid in sorted(bounds):
        most = bounds[(one, mid)]
        # A bound from an event to itself that is not below 0 says nothing: it counts as covered.
        known = {**exits[one], one: 0}
        onward = exits.get(mid, {})
        for other in onward:
            if other not in known or most + onward[other] < known[other]:
                return "made", "joined", ("bound", one, mid, most), ("bound", mid, other, onward[other])
    return None


def _late_fault(net, bounds, waits):
    """The first fault of `late`."""
    exits = _by_first(waits)
    for one, mid in sorted(bounds):
        most = bounds[(one, mid)]
        ended = net.work_of(one)
        known = exits.get(one, {})
        onward = exits.get(mid, {})
        for work in onward:
            if work != ended and (work not in known or known[work] < onward[work] - most):
                return "made", "late", ("bound", one, mid, most), ("wait", mid, work, onward[work])
    return None


def _by_first(rows):
    """The dict from the first names of pairs to dicts from the second ones, both ascending."""
    exits = {}
    for one, other in sorted(rows):
        exits.setdefault(one, {})[other] = rows[(one, other)]
    return exits
