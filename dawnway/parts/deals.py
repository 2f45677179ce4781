"""Safe deals, and trees of cases that show that there is none."""

from dawnway.base.names import is_pair
from dawnway.errors import InvalidOperation, TooMany
from dawnway.net.nets import MAX_BOUNDS
from dawnway.parts.days import deal_with, gap_bound, is_deal, need_day, need_deal, net_of, use_bounds
from dawnway.rule.closing import closing_of
from dawnway.rule.rows import is_list
from dawnway.rule.tables import closure, is_closed

MAX_OPEN = 10

_MAX_PAIRS = 60


def net_of_case(day, case):
    """The net of a case."""
    need_day(day)
    _need_case(day, case)
    if len(day.net.bounds) + len(day) + len(case) > MAX_BOUNDS:
        raise TooMany(MAX_BOUNDS)
    return _case_net(day, case)


def is_safe(day, deal):
    """Whether the net of the deal has a closed table."""
    need_deal(day, deal)
    _need_room(day, ())
    return closure(net_of(day, deal)) is not None


def open_pairs(day):
    """The pairs of uses of one place that can go both ways, each by itself."""
    need_day(day)
    _need_room(day, ())
    return _open_among(day, _ways(day, closing_of(_case_net(day, ()))))


def deal_paper(day):
    """Any safe deal with a closed table of its net, or any tree of cases, with the word that tells which."""
    need_day(day)
    _need_room(day, ())
    base = closing_of(_case_net(day, ()))
    ways = _ways(day, base)
    several = _few_open(day, ways)
    # What can go one way alone is told first: it needs no branches, and leaves fewer to the others.
    pairs = [pair for pair in _place_pairs(day) if pair not in several]
    kind, found = _search(day, base, 0, [*pairs, *several])
    if kind == "tree":
        return kind, found
    bounds, waits = closure(net_of(day, found))
    return kind, found, bounds, waits


def is_deal_paper(day, value):
    """Whether the value is a safe deal with a closed table, or a tree of cases."""
    need_day(day)
    _need_room(day, ())
    if not isinstance(value, tuple) or len(value) < 2:
        return False
    if value[0] == "deal":
        return len(value) == 4 and is_deal(day, value[1]) and is_closed(net_of(day, value[1]), value[2:])
    return value[0] == "tree" and len(value) == 2 and _is_tree_at(day, value[1], ())


def is_tree(day, value, *, case=()):
    """Whether the value is a tree at the case."""
    need_day(day)
    _need_case(day, case)
    _need_room(day, case)
    return _is_tree_at(day, value, case)


def safe_deals(day):
    """All safe deals, ascending by the tuples of their sequences."""
    need_day(day)
    _need_room(day, ())
    base = closing_of(_case_net(day, ()))
    ways = _ways(day, base)
    _few_open(day, ways)
    stack = [] if base.is_barred() else [(base, ())]
    while stack != []:
        closing, uses = stack.pop()
        if len(uses) == len(day):
            yield _deal_of(day, uses)
        # The last one of the stack is looked at first.
        stack.extend(_longer(day, ways, closing, uses)[::-1])


def _need_case(day, case):
    if not isinstance(case, tuple) or len(case) > _MAX_PAIRS or not all([_is_case_pair(day, pair) for pair in case]):
        raise InvalidOperation("no case of the day of at most sixty pairs")


def _is_case_pair(day, value):
    """Whether the value is a pair of different uses of one place."""
    if not is_pair(value) or not all([isinstance(name, str) for name in value]):
        return False
    uses = day.uses
    one, other = value
    return one != other and one in uses and other in uses and uses[one][0] == uses[other][0]


def _place_pairs(day):
    """The pairs of uses of one place, ascending, the lesser name first."""
    uses = day.uses
    return [(one, other) for one in uses for other in uses if one < other and uses[one][0] == uses[other][0]]


def _need_room(day, case):
    """Raises TooMany if the net of the case, with all pairs that do not stand in it, has too many bounds."""
    told = {tuple(sorted(pair)): True for pair in case}
    free = [pair for pair in _place_pairs(day) if pair not in told]
    if len(day.net.bounds) + len(day) + len(case) + len(free) > MAX_BOUNDS:
        raise TooMany(MAX_BOUNDS)


def _case_net(day, case):
    bounds = use_bounds(day)
    for index, (one, other) in enumerate(case):
        bounds[f"case.{index}"] = gap_bound(day, one, other)
    return day.net.with_bounds(bounds)


def _ways(day, base):
    """The dict from all ordered pairs of uses of one place to whether the first can go ahead by itself."""
    ways = {}
    for one, other in _place_pairs(day):
        ways[(one, other)] = not _ordered(day, base, 0, one, other).is_barred()
        ways[(other, one)] = not _ordered(day, base, 0, other, one).is_barred()
    return ways


def _open_among(day, ways):
    return tuple([(one, other) for one, other in _place_pairs(day) if ways[(one, other)] and ways[(other, one)]])


def _few_open(day, ways):
    """The open pairs: raises TooMany if there are more than ten."""
    several = _open_among(day, ways)
    if len(several) > MAX_OPEN:
        raise TooMany(MAX_OPEN)
    return several


def _ordered(day, closing, index, one, other):
    """The closing of the net of a case with one pair more, at this index, by that of the case."""
    first, second, most = gap_bound(day, one, other)
    return closing.beside(first, second, most, ("bound", f"case.{index}"))


def _goes_ahead(day, closing, one, other):
    """Whether the bounds that are there have one use go ahead of the other one."""
    first, second, most = gap_bound(day, one, other)
    return closing.keeps(first, second, most)


def _is_ordered(day, closing, pair):
    one, other = pair
    return _goes_ahead(day, closing, one, other) or _goes_ahead(day, closing, other, one)


def _search(day, closing, index, pairs):
    """Any safe deal in which a case of so many pairs holds, or any tree at it, with the word that tells which."""
    if closing.is_barred():
        return "tree", ("leaf", closing.as_list())
    steps = []
    tree = None
    while tree is None:
        pairs = [pair for pair in pairs if not _is_ordered(day, closing, pair)]
        if pairs == []:
            return "deal", deal_with(day, lambda one, other: _goes_ahead(day, closing, one, other))
        one, other = pairs[0]
        sides = [(pair, _ordered(day, closing, index, *pair)) for pair in ((one, other), (other, one))]
        going = [side for side in sides if not side[1].is_barred()]
        if len(going) == 1:
            steps.append(sides)
            index += 1
            closing = going[0][1]
        else:
            kind, tree = _branches(day, sides, index + 1, pairs)
            if kind == "deal":
                return kind, tree
    return "tree", _with_steps(steps, tree)


def _branches(day, sides, index, pairs):
    """Any safe deal on one of both sides, or the tree that has a tree for each."""
    trees = []
    for _, closing in sides:
        kind, found = _search(day, closing, index, pairs)
        if kind == "deal":
            return kind, found
        trees.append(found)
    return "tree", ("case", *sides[0][0], *trees)


def _with_steps(steps, tree):
    """The tree behind pairs that can go one way alone; each other way is a leaf."""
    for (pair, ahead), (_, behind) in steps[::-1]:
        if ahead.is_barred():
            tree = ("case", *pair, ("leaf", ahead.as_list()), tree)
        else:
            tree = ("case", *pair, tree, ("leaf", behind.as_list()))
    return tree


def _is_tree_at(day, value, case):
    """Whether the value is a tree at the case. It can be deep: so no function calls itself here."""
    left = [(value, case)]
    while left != []:
        node, told = left.pop()
        if not isinstance(node, tuple) or len(node) < 2:
            return False
        if node[0] == "leaf":
            if len(node) != 2 or not is_list(_case_net(day, told), node[1]):
                return False
        elif not _is_branching(day, node, told):
            return False
        else:
            _, one, other, first, second = node
            left.append((first, (*told, (one, other))))
            left.append((second, (*told, (other, one))))
    return True


def _is_branching(day, node, case):
    """Whether a tuple tells two uses of one place that do not stand together in the case, and two trees."""
    if node[0] != "case" or len(node) != 5 or not _is_case_pair(day, node[1:3]):
        return False
    one, other = node[1:3]
    return one < other and (one, other) not in case and (other, one) not in case


def _longer(day, ways, closing, uses):
    """The pairs of a closing and a sequence that is longer by one use and can go on, ascending."""
    left = [name for place in day.places for name in day.uses_of(place) if name not in uses]
    told = day.uses
    here = [name for name in left if told[name][0] == told[left[0]][0]]
    found = []
    for name in here:
        if all([ways[(name, other)] for other in here if other != name]):
            longer = closing
            if uses != () and told[uses[-1]][0] == told[name][0]:
                longer = _ordered(day, closing, 0, uses[-1], name)
            if not longer.is_barred():
                found.append((longer, (*uses, name)))
    return found


def _deal_of(day, uses):
    """The deal that has the uses in their sequence."""
    told = day.uses
    return {place: tuple([name for name in uses if told[name][0] == place]) for place in day.places}
