"""Mends: which bounds cannot be kept together, and the cheapest ones to take back."""

from dawnway.base.names import is_integer, is_names
from dawnway.errors import InvalidOperation, TooMany
from dawnway.net.needs import need_net
from dawnway.rule.closing import closing_of
from dawnway.rule.rows import bounds_used, is_list
from dawnway.rule.tables import answer, is_answer

MAX_PRICED = 8


def conflicts(net, prices):
    """All conflicts, ascending."""
    _need_few_prices(net, prices)
    return tuple(_barred_lots(net, prices))


def least_mends(net, prices):
    """All least lots that mend, ascending."""
    _need_few_prices(net, prices)
    return tuple(_least_mends(prices, _barred_lots(net, prices)))


def cheapest(net, prices):
    """The least cost of the lots that mend, and the least lots with this cost, or None if no lot mends."""
    _need_few_prices(net, prices)
    return _cheapest(prices, _barred_lots(net, prices))


def mend_paper(net, prices):
    """Any list without all priced bounds, or any cheapest lot that mends with a table and a bar."""
    _need_few_prices(net, prices)
    barred = _barred_lots(net, prices)
    best = _cheapest(prices, barred)
    if best is None:
        return "never", barred[()]
    cost, lots = best
    lot = lots[0]
    return "mend", lot, answer(net.without(*lot)), _bar(prices, barred, cost)


def is_mend_paper(net, prices, value):
    """Whether the value is such a list, or such a lot with a table and a bar."""
    _need_prices(net, prices)
    if not isinstance(value, tuple) or len(value) < 2:
        return False
    if value[0] == "never":
        names = list(prices)
        return len(value) == 2 and is_list(net.without(*names), value[1])
    if value[0] != "mend" or len(value) != 4 or not _is_lot(prices, value[1]):
        return False
    _, lot, told, bar = value
    if not is_answer(net.without(*lot), told) or told[0] != "table":
        return False
    return _is_bar(net, prices, bar, _cost(prices, lot))


def mended(net, lot):
    """The net without the bounds of the lot."""
    need_net(net)
    if not _is_lot(net.bounds, lot):
        raise InvalidOperation("no ascending tuple of names of bounds")
    return net.without(*lot)


def left_over(net, prices, lot):
    """The conflicts that have no name in the lot, ascending."""
    _need_prices(net, prices)
    if not _is_lot(prices, lot):
        raise InvalidOperation("no lot of priced names")
    _need_few_prices(net, prices)
    return tuple([conflict for conflict in _barred_lots(net, prices) if not _meets(lot, conflict)])


def _need_prices(net, prices):
    need_net(net)
    bounds = net.bounds
    if not isinstance(prices, dict) or not all([name in bounds and _is_price(prices[name]) for name in prices]):
        raise InvalidOperation("no dict from names of bounds to prices")


def _need_few_prices(net, prices):
    _need_prices(net, prices)
    if len(prices) > MAX_PRICED:
        raise TooMany(MAX_PRICED)


def _is_price(value):
    return is_integer(value) and value >= 0


def _is_lot(names, value):
    """Whether the value is an ascending tuple of these names."""
    return is_names(value) and all([name in names for name in value])


def _cost(prices, lot):
    return sum([prices[name] for name in lot])


def _meets(lot, other):
    """Whether two lots have a name in common."""
    return any([name in other for name in lot])


def _is_within(lot, other):
    return all([name in other for name in lot])


def _least(lots):
    """Those of the lots within which there is no other one."""
    return [lot for lot in lots if not any([other != lot and _is_within(other, lot) for other in lots])]


def _barred_lots(net, prices):
    """The dict from all conflicts to lists without the other priced bounds, ascending."""
    bounds = net.bounds
    names = sorted(prices)
    barred = {}
    left = [((), closing_of(net.without(*names)))]
    while left != []:
        lot, closing = left.pop()
        if closing.is_barred():
            barred[lot] = closing.as_list()
        else:
            for name in names[0 if lot == () else names.index(lot[-1]) + 1:]:
                longer = (*lot, name)
                # What has a barred lot within it is barred, too, and never a conflict.
                if not any([_is_within(other, longer) for other in barred]):
                    first, second, most = bounds[name]
                    left.append((longer, closing.beside(first, second, most, ("bound", name))))
    return {lot: barred[lot] for lot in sorted(_least(list(barred)))}


def _least_mends(prices, barred):
    """The least lots that have a name of each conflict, ascending."""
    lots = [()]
    for name in sorted(prices):
        lots = [*lots, *[(*lot, name) for lot in lots]]
    return sorted(_least([lot for lot in lots if all([_meets(lot, conflict) for conflict in barred])]))


def _cheapest(prices, barred):
    lots = _least_mends(prices, barred)
    if lots == []:
        return None
    cost = min([_cost(prices, lot) for lot in lots])
    return cost, tuple([lot for lot in lots if _cost(prices, lot) == cost])


def _bar(prices, barred, cost):
    """The bar for the least cost of the lots that mend: each lot below it misses a conflict, with its list."""
    bar = {}
    left = [()] if cost > 0 else []
    while left != []:
        lot = left.pop()
        if lot not in bar:
            missed = [conflict for conflict in barred if not _meets(lot, conflict)][0]
            bar[lot] = barred[missed]
            longer = [tuple(sorted((*lot, name))) for name in missed]
            left.extend([other for other in longer if _cost(prices, other) < cost])
    return {lot: bar[lot] for lot in sorted(bar)}


def _is_bar(net, prices, value, cost):
    """Whether the value is a bar for the cost."""
    if not isinstance(value, dict) or not all([_is_lot(prices, lot) for lot in value]) or cost > 0 and () not in value:
        return False
    for lot in value:
        if not is_list(net.without(*lot), value[lot]):
            return False
        named = [tuple(sorted((*lot, name))) for name in bounds_used(value[lot]) if name in prices]
        if not all([_cost(prices, longer) >= cost or longer in value for longer in named]):
            return False
    return True
