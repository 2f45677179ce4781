"""What many functions ask of their arguments, and the errors that a wrong net, event or work raises."""

from dawnway.base.names import DAWN, is_pair, is_tick
from dawnway.errors import InvalidNet, UnknownName
from dawnway.net.nets import Net


def need_net(value):
    """Raises InvalidNet unless the value is a net."""
    if not isinstance(value, Net):
        raise InvalidNet("no Net")


def is_place(net, value):
    """Whether the value is dawn or an event of the net."""
    return value == DAWN or value in net


def need_place(net, value):
    """Raises UnknownName unless the value is dawn or an event of the net."""
    if not is_place(net, value):
        raise UnknownName(value)


def need_event(net, value):
    """Raises UnknownName unless the value is an event of the net, dawn not."""
    if value not in net:
        raise UnknownName(value)


def are_told_words(net, value):
    """Whether the value is a tuple of told words of the net."""
    if not isinstance(value, tuple):
        return False
    told = {word: True for word in net.told}
    for word in value:
        if not is_pair(word) or not all([isinstance(part, str) for part in word]) or word not in told:
            return False
    return True


def are_event_ticks(net, value):
    """Whether the value is a dict from events of the net to ticks."""
    return isinstance(value, dict) and all([event in net and is_tick(value[event]) for event in value])


def is_work(net, value):
    """Whether the value is a work of the net."""
    return isinstance(value, str) and value in net.works


def need_work(net, value):
    """Raises UnknownName unless the value is a work of the net."""
    if not is_work(net, value):
        raise UnknownName(value)
