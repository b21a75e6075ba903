"""What is reached by rounds: with each ride more, the stops where one can get off, and when."""

from roadbook.fares import least_tickets
from roadbook.plans import plan_by
from roadbook.rides import MOST_MINUTES, Rides, check_journey


def rounds(net, stop, begin, most=3, notices=None):
    """For each number of rides a dict of the stops where one can get off, each with the least moment."""
    check_journey(net, [stop], begin, most)
    found = rounds_by(Rides(net, begin, begin + MOST_MINUTES, notices), stop, begin, most)
    return [moments_in(known, net.stops()) for known in found]


def reached(net, stop, begin, most=3, notices=None):
    """The stops to which a journey of at most so many rides leads, in the net's order."""
    check_journey(net, [stop], begin, most)
    rides = Rides(net, begin, begin + MOST_MINUTES, notices)
    known = rounds_by(rides, stop, begin, most)[-1]
    return [other for other in net.stops() if soonest(rides, known, other, begin + MOST_MINUTES) is not None]


def earliest(net, one, other, begin, most=3, notices=None):
    """A plan of at most so many rides that comes as soon as any, or None."""
    check_journey(net, [one, other], begin, most)
    rides = Rides(net, begin, begin + MOST_MINUTES, notices)
    known = rounds_by(rides, one, begin, most)[-1]
    best = soonest(rides, known, other, begin + MOST_MINUTES)
    if best is None:
        return None
    ridden = known[best][1]
    paid = least_tickets(net, [(ride.bits, ride.leave) for ride in ridden])
    return plan_by(one, begin, ridden, paid[1], other)


def rounds_by(rides, stop, begin, most):
    """For each number of rides a dict of the stops, each with the least moment and the rides that lead there."""
    found = [{stop: (begin, [])}]
    for number in range(most):
        found.append(next_round(rides, found[number]))
    return found


def next_round(rides, known):
    """What is known behind one more ride."""
    found = dict(known)
    for stop, row in known.items():
        for ride in rides.boarded_from(stop, row[0], len(row[1]) > 0):
            if ride.goal not in found or ride.arrive < found[ride.goal][0]:
                found[ride.goal] = (ride.arrive, row[1] + [ride])
    return found


def moments_in(known, stops):
    return dict([(stop, known[stop][0]) for stop in stops if stop in known])


def soonest(rides, known, other, end):
    """The stop of those known from which one comes to another one soonest, or None where none is in time."""
    ways = []
    for stop, row in known.items():
        minutes = rides.feet.minutes(stop, other)
        if minutes is not None and row[0] + minutes <= end:
            ways.append((row[0] + minutes, len(row[1]), stop))
    return min(ways)[2] if len(ways) > 0 else None
