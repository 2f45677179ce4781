"""The errors that a wrong net, event or work raises everywhere."""

from dawnway.base.names import DAWN
from dawnway.errors import InvalidNet, UnknownName
from dawnway.net.nets import Net


def need_net(value):
    """Raises InvalidNet unless the value is a net."""
    if not isinstance(value, Net):
        raise InvalidNet("no Net")


def is_place(net, value):
    """Whether the value is dawn or an event of the net."""
    return value == DAWN or value in net


def need_place(net, value):
    """Raises UnknownName unless the value is dawn or an event of the net."""
    if not is_place(net, value):
        raise UnknownName(value)


def is_work(net, value):
    """Whether the value is a work of the net."""
    return isinstance(value, str) and value in net.works


def need_work(net, value):
    """Raises UnknownName unless the value is a work of the net."""
    if not is_work(net, value):
        raise UnknownName(value)
