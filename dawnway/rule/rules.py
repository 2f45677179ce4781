"""The six rules, for rows of a net that are known to be rows.

Each rule returns the row that it makes, whatever the size of its number, or None.
"""


def make_row(net, rule, rows):
    """The row that a rule makes of as many rows as it takes, or None."""
    if rule == "joined":
        return _joined(rows[0], rows[1])
    if rule == "late":
        return _late(net, rows[0], rows[1])
    if rule == "early":
        return _early(net, rows[0])
    if rule == "first":
        return _first(net, rows[0])
    if rule == "both":
        return _both(net, rows[0])
    return _sure(net, rows[0])


def taken_by(rule):
    """The number of the rows that the rule takes."""
    return 2 if rule in ("joined", "late") else 1


def is_covered(row, other):
    """Whether `other` is covered by `row`."""
    if row[:3] != other[:3]:
        return False
    return row[3] <= other[3] if row[0] == "bound" else row[3] >= other[3]


def _joined(row, other):
    if row[0] != "bound" or other[0] != "bound" or row[2] != other[1]:
        return None
    return "bound", row[1], other[2], row[3] + other[3]


def _early(net, row):
    if row[0] != "bound" or row[1] == row[2] or net.work_of(row[1]) is None:
        return None
    begin, _, least, _, look = net.works[net.work_of(row[1])]
    if row[3] > look - 1:
        return None
    return "bound", begin, row[2], least + row[3]


def _first(net, row):
    if row[0] != "bound" or row[1] == row[2] or net.work_of(row[2]) is None:
        return None
    work = net.work_of(row[2])
    return "wait", row[1], work, net.works[work][3] - row[3]


def _late(net, row, other):
    if row[0] != "bound" or other[0] != "wait" or row[2] != other[1] or net.work_of(row[1]) == other[2]:
        return None
    return "wait", row[1], other[2], other[3] - row[3]


def _both(net, row):
    if row[0] != "wait" or row[3] < 1 or net.work_of(row[1]) is None:
        return None
    begin, _, least, _, _ = net.works[net.work_of(row[1])]
    if net.work_of(begin) == row[2]:
        return None
    return "wait", begin, row[2], row[3] - least


def _sure(net, row):
    if row[0] != "wait":
        return None
    begin, _, least, _, look = net.works[row[2]]
    return "bound", row[1], begin, -min(row[3], least + look)
