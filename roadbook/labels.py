"""Labels: how one stands where one got off, what follows by one more ride, and which of them are least."""

from roadbook.errors import TooMany
from roadbook.rides import MOST_MINUTES, Rides, check_most

MOST_LABELS = 150


def no_worse(one, other):
    """Whether one label (stop, come, rides, price, ticket, until) is no worse than another."""
    if one[0] != other[0] or one[1] > other[1] or one[2] > other[2] or one[3] > other[3]:
        return False
    return other[4] is None or (one[4] == other[4] and one[5] >= other[5])


def follow(net, label, end, notices=None):
    """The labels that follow one by one more ride, each once, that come no later than the end."""
    return sorted(steps_behind(net, Rides(net, label[1], end, notices), label), key=label_order)


def least_labels(net, beginnings, most=3, notices=None):
    """The least labels of at most so many rides from some beginnings (stop, moment)."""
    check_most(most)
    rides = Rides(net, earliest_of(beginnings), end_of(beginnings), notices)
    return sorted(least_trails(net, rides, beginnings, most), key=label_order)


def earliest_of(beginnings):
    # From no beginning nothing is found, whatever the time.
    return min([moment for stop, moment in beginnings], default=0)


def end_of(beginnings):
    """The last moment at which a journey from some beginnings may come."""
    return earliest_of(beginnings) + MOST_MINUTES


def label_order(label):
    return (label[0], label[1], label[2], label[3], label[5], ticket_order(label))


def ticket_order(label):
    return "" if label[4] is None else label[4]


def better_first(label):
    """An order in which no label stands ahead of one that is no worse."""
    return (label[1], label[2], label[3], -label[5], label[0], ticket_order(label))


def least_trails(net, rides, beginnings, most):
    """The least labels, each with the one that it follows, the ride and what is bought; None of a beginning."""
    end = end_of(beginnings)
    least = Least()
    fresh = least.put_all(
        dict([((stop, moment, 0, 0, None, -1), None) for stop, moment in beginnings if moment <= end]))
    for number in range(most):
        found = {}
        for label in fresh:
            for follower, trail in steps_behind(net, rides, label).items():
                found.setdefault(follower, trail)
        fresh = least.put_all(found)
    return least.trails


def steps_behind(net, rides, label):
    """The labels that follow one, each with it, the ride and what is bought."""
    found = {}
    for ride in rides.boarded_from(label[0], label[1], label[2] > 0):
        for name in ways_to_pay(label, ride):
            found.setdefault(label_behind(net, label, ride, name), (label, ride, name))
    return found


def ways_to_pay(label, ride):
    """The tickets that may be bought for a ride, and None ahead of them where the one held may be held still."""
    if label[4] in ride.fitting and ride.leave < label[5]:
        return [None] + ride.fitting
    return ride.fitting


def label_behind(net, label, ride, name):
    price = label[3]
    ticket = label[4]
    until = label[5]
    if name is not None:
        bought = net.ticket(name)
        price = price + bought[0]
        ticket = name
        until = ride.leave + bought[1]
    if until <= ride.arrive:
        ticket = None
        until = -1
    return (ride.goal, ride.arrive, label[2] + 1, price, ticket, until)


class Least:
    """The least of some labels, put in by rising numbers of rides."""

    def __init__(self):
        self.trails = {}
        self.at_stop = {}

    def put_all(self, found):
        """Puts in those labels of a dict that are least; tells them."""
        fresh = []
        # None of a later round is no worse than one of fewer rides, so what is kept once is least for good.
        for label in sorted(found, key=better_first):
            kept = self.at_stop.setdefault(label[0], [])
            if any([no_worse(other, label) for other in kept]):
                continue
            kept.append(label)
            self.trails[label] = found[label]
            fresh.append(label)
            if len(self.trails) > MOST_LABELS:
                raise TooMany("too many labels")
        return fresh
