"""Spare: by how many ticks works can become longer, and what keeps them from becoming longer still."""

from dawnway.base.names import MAX_LENGTH, is_names, is_tick
from dawnway.base.search import greatest_good
from dawnway.errors import InvalidNumber, InvalidOperation, InvalidTable
from dawnway.net.needs import need_net
from dawnway.rule.rows import bounds_used, is_list
from dawnway.rule.tables import answer, is_answer, is_safe


def stretched(net, works, many):
    """The net in which the most of each of the works is so many ticks greater."""
    _need_works(net, works)
    if not is_tick(many) or not _can_take(net, _box_of(works, many)):
        raise InvalidNumber(many)
    return _boxed(net, _box_of(works, many))


def spare(net, works):
    """The greatest number of ticks by which the net can be stretched at the works, or None if it is not safe."""
    _need_works(net, works)
    if not is_safe(net):
        return None
    return _spare_at(net, _box_of(net.works, 0), works)


def spare_paper(net, works):
    """The spare, a table for it, and a list for one tick more; or a list of the net."""
    many = spare(net, works)
    if many is None:
        return None, None, answer(net)[1]
    most = _box_of(works, many + 1)
    lines = answer(_boxed(net, most))[1] if _can_take(net, most) else None
    return many, answer(_boxed(net, _box_of(works, many))), lines


def is_spare_paper(net, works, value):
    """Whether the value is the spare with a table for it, and a list for one tick more, or a list of the net."""
    _need_works(net, works)
    if not isinstance(value, tuple) or len(value) != 3:
        return False
    many, told, lines = value
    if many is None:
        return told is None and is_list(net, lines)
    if not is_tick(many) or not _can_take(net, _box_of(works, many)):
        return False
    if not _is_table(_boxed(net, _box_of(works, many)), told):
        return False
    most = _box_of(works, many + 1)
    return is_list(_boxed(net, most), lines) if _can_take(net, most) else lines is None


def full_box(net, sequence):
    """The box that gives each work of the sequence as much as it can behind those ahead of it, or None."""
    need_net(net)
    if not isinstance(sequence, tuple) or not all([isinstance(work, str) for work in sequence]):
        raise InvalidOperation("no tuple of all works")
    if tuple(sorted(sequence)) != tuple(net.works):
        raise InvalidOperation("no tuple of all works")
    if not is_safe(net):
        return None
    box = _box_of(net.works, 0)
    for work in sequence:
        box[work] = _spare_at(net, box, (work,))
    return box


def box_paper(net, box):
    """A table under the box with lists for one tick more, or a work that can take one tick more, or a list."""
    _need_box(net, box)
    told = answer(_boxed(net, box))
    if told[0] == "list":
        return "barred", told[1]
    lists = {}
    for work in net.works:
        longer = _longer_box(box, work)
        if _can_take(net, longer):
            more = answer(_boxed(net, longer))
            if more[0] == "table":
                return "more", work, more
            lists[work] = more[1]
    return "full", told, lists


def is_box_paper(net, box, value):
    """Whether the value is a paper of the box."""
    _need_box(net, box)
    if not isinstance(value, tuple) or len(value) not in (2, 3):
        return False
    if len(value) == 2:
        return value[0] == "barred" and is_list(_boxed(net, box), value[1])
    word, one, other = value
    if word == "more":
        if not isinstance(one, str) or one not in net.works or not _can_take(net, _longer_box(box, one)):
            return False
        return _is_table(_boxed(net, _longer_box(box, one)), other)
    return word == "full" and _is_table(_boxed(net, box), one) and _are_lists(net, box, other)


def gives(net, lines):
    """The names of the bounds that are words of the lines of a list, ascending."""
    if not is_list(net, lines):
        raise InvalidTable("no list of the net")
    return tuple(bounds_used(lines))


def _need_works(net, works):
    need_net(net)
    told = net.works
    if not is_names(works) or works == () or not all([work in told for work in works]):
        raise InvalidOperation("no ascending tuple of works")


def _need_box(net, box):
    need_net(net)
    works = net.works
    if not isinstance(box, dict) or len(box) != len(works):
        raise InvalidOperation("no dict from all works")
    if not all([work in box and is_tick(box[work]) for work in works]) or not _can_take(net, box):
        raise InvalidOperation("no dict from all works to ticks that they can take")


def _box_of(works, many):
    """The dict from the works to so many ticks."""
    return {work: many for work in works}


def _longer_box(box, work):
    """The box with one tick more for a work."""
    return {**box, work: box[work] + 1}


def _can_take(net, box):
    """Whether no most is too great under a box."""
    works = net.works
    return all([works[work][3] + box[work] <= MAX_LENGTH for work in box])


def _boxed(net, box):
    """The net under a box."""
    works = net.works
    return net.with_lengths({work: (works[work][2], works[work][3] + box[work]) for work in box})


def _spare_at(net, box, works):
    """The most ticks that each of the works can take beside a box that gives them none. The net is safe under it."""
    told = net.works
    lasts = net.lasts
    # No work can end behind the last tick of its end.
    limit = min([lasts[told[work][1]] - told[work][3] for work in works])
    return greatest_good(lambda many: is_safe(_boxed(net, _more(box, works, many))), 0, limit)


def _more(box, works, many):
    """The box with so many ticks more for some works."""
    return {work: box[work] + many if work in works else box[work] for work in box}


def _is_table(net, value):
    return is_answer(net, value) and value[0] == "table"


def _are_lists(net, box, value):
    """Whether the value is a dict from all works that can take one tick more to lists for this."""
    longer = {work: _longer_box(box, work) for work in net.works}
    asked = [work for work in longer if _can_take(net, longer[work])]
    if not isinstance(value, dict) or len(value) != len(asked) or not all([work in value for work in asked]):
        return False
    return all([is_list(_boxed(net, longer[work]), value[work]) for work in asked])
