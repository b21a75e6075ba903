"""Fronts: the worths of journeys that no other one equals or beats, each with a plan."""

from roadbook.labels import earliest_of, end_of, least_trails
from roadbook.plans import plan_by
from roadbook.rides import Rides, check_journey, check_most


def front(net, one, other, begin, most=3, notices=None):
    """The front from one stop to another: tuples (worth, plan)."""
    check_journey(net, [one, other], begin, most)
    return front_by(net, [(one, begin)], other, most, notices)


def front_from(net, beginnings, other, most=3, notices=None):
    """The front from some beginnings (stop, moment) to a stop."""
    net.check_stop(other)
    check_most(most)
    return front_by(net, beginnings, other, most, notices)


def front_by(net, beginnings, other, most, notices):
    rides = Rides(net, earliest_of(beginnings), end_of(beginnings), notices)
    trails = least_trails(net, rides, beginnings, most)
    found = {}
    for label in trails:
        minutes = rides.feet.minutes(label[0], other)
        if minutes is not None and label[1] + minutes <= end_of(beginnings):
            found.setdefault((label[1] + minutes, label[2], label[3]), label)
    return [(worth, plan_to(trails, found[worth], other)) for worth in best_of(found)]


def best_of(worths):
    """Those worths that no other one beats, rising."""
    kept = []
    for worth in sorted(worths):
        if not any([beats(other, worth) for other in kept]):
            kept.append(worth)
    return kept


def beats(one, other):
    return one[1] <= other[1] and one[2] <= other[2]


def plan_to(trails, label, other):
    """The plan that leads to a label and on to a stop."""
    rides = []
    bought = []
    trail = trails[label]
    while trail is not None:
        label = trail[0]
        rides.insert(0, trail[1])
        bought.insert(0, trail[2])
        trail = trails[label]
    return plan_by(label[0], label[1], rides, bought, other)
