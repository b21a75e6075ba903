"""On foot: the least minutes by walks, one behind the other, and a way for them."""

from roadbook.errors import NoStop
from roadbook.figures import is_known


def walked_at_once(net):
    """The minutes and the stops of each way of one walk at most, by its two ends."""
    found = {}
    for stop in net.stops():
        found[(stop, stop)] = (0, [stop])
    for one, other, minutes in net.walks():
        found[(one, other)] = (minutes, [one, other])
        found[(other, one)] = (minutes, [other, one])
    return found


def led_over(found, one, middle, other):
    """The minutes and the stops of the way over a stop between, or None where there is none."""
    head = found.get((one, middle))
    tail = found.get((middle, other))
    if head is None or tail is None:
        return None
    return (head[0] + tail[0], head[1] + tail[1][1:])


class Feet:
    """What is gone on foot in a net, as the net was when this was made."""

    def __init__(self, net):
        names = net.stops()
        self.known = dict([(name, True) for name in names])
        self.found = walked_at_once(net)
        for middle in names:
            for one in names:
                for other in names:
                    self.take_shorter(one, other, led_over(self.found, one, middle, other))

    def take_shorter(self, one, other, led):
        kept = self.found.get((one, other))
        if led is not None and (kept is None or led[0] < kept[0]):
            self.found[(one, other)] = led

    def between(self, one, other):
        for name in (one, other):
            if not is_known(name, self.known):
                raise NoStop("no such stop")
        return self.found.get((one, other))

    def minutes(self, one, other):
        """The least minutes from one stop to another, or None."""
        kept = self.between(one, other)
        return None if kept is None else kept[0]

    def way(self, one, other):
        """The stops from one to another by walks of these minutes, both of them, or None."""
        kept = self.between(one, other)
        return None if kept is None else list(kept[1])
