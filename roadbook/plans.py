"""Plans: how they are gone leg by leg, and what they are worth."""

from roadbook.clocks import LAST_BEGIN, LAST_DAY, LAST_MOMENT
from roadbook.errors import NoPlan
from roadbook.fares import NOTHING_HELD, held_behind, price_for
from roadbook.feet import Feet
from roadbook.figures import is_any_number, is_known, is_number
from roadbook.notices import Notices
from roadbook.tickets import zones_of


def gone(net, plan, notices=None):
    """A plan's worth (come, rides, price)."""
    check_form(net, plan)
    places = Ways(net, notices).places(plan)
    if len(places) <= len(plan[2]):
        raise NoPlan(len(places) - 1)
    return places[-1].worth()


def can_be_gone(net, plan, notices=None):
    """Whether a plan of the right form can be gone."""
    return len(Ways(net, notices).places(plan)) > len(plan[2])


def copy_of_plan(plan):
    return (plan[0], plan[1], list(plan[2]))


def plan_by(stop, begin, rides, bought, other):
    """The plan of a journey by some rides, with what is bought for each, and a walk wherever one is wanted."""
    legs = []
    place = stop
    for ride, name in zip(rides, bought):
        if ride.start != place:
            legs.append(("walk", ride.start))
        legs.append(("ride", ride.trip, ride.day, ride.board, ride.off, name))
        place = ride.goal
    if other != place:
        legs.append(("walk", other))
    return (stop, begin, legs)


def check_form(net, plan):
    if not has_plan_form(net, plan):
        raise NoPlan(None)


def has_plan_form(net, plan):
    if not isinstance(plan, tuple) or len(plan) != 3:
        return False
    if not is_known(plan[0], net.stop_rows) or not is_number(plan[1], 0, LAST_BEGIN):
        return False
    return isinstance(plan[2], list) and all([has_leg_form(leg) for leg in plan[2]])


def has_leg_form(leg):
    # The kind of the first word is asked first: what isn't a text may not be comparable with one.
    if not isinstance(leg, tuple) or len(leg) == 0 or not isinstance(leg[0], str):
        return False
    if leg[0] == "walk":
        return len(leg) == 2 and isinstance(leg[1], str)
    if leg[0] == "wait":
        return len(leg) == 2 and is_number(leg[1], 0, LAST_MOMENT)
    return leg[0] == "ride" and len(leg) == 6 and has_ride_form(leg)


def has_ride_form(leg):
    if not isinstance(leg[1], str) or not all([is_any_number(number) for number in leg[2:5]]):
        return False
    return leg[5] is None or isinstance(leg[5], str)


class Place:
    """Where one is behind a leg: since when, from when on one can board there, and what was paid and is held."""

    def __init__(self, stop, come, ready, held, rides, price):
        self.stop = stop
        self.come = come
        self.ready = ready
        self.held = held
        self.rides = rides
        self.price = price

    def worth(self):
        return (self.come, self.rides, self.price)


class Ways:
    """How the legs of plans are gone, by a net and notices."""

    def __init__(self, net, notices=None):
        self.net = net
        self.feet = Feet(net)
        self.notices = Notices(net) if notices is None else notices

    def places(self, plan):
        """Where one is at the beginning and behind each leg, up to the first one that can't be gone."""
        found = [Place(plan[0], plan[1], plan[1], NOTHING_HELD, 0, 0)]
        for leg in plan[2]:
            place = self.behind(found[-1], leg)
            if place is None:
                break
            found.append(place)
        return found

    def behind(self, place, leg):
        """Where one is behind a leg, or None where it can't be gone."""
        if leg[0] == "walk":
            return self.behind_walk(place, leg[1])
        if leg[0] == "wait":
            # Waiting doesn't make changing quicker, so both bounds of boarding stand.
            come = max(place.come, leg[1])
            ready = max(place.ready, leg[1])
            return Place(place.stop, come, ready, place.held, place.rides, place.price)
        return self.behind_ride(place, leg)

    def behind_walk(self, place, stop):
        if stop == place.stop or stop not in self.net.stops():
            return None
        minutes = self.feet.minutes(place.stop, stop)
        if minutes is None:
            return None
        come = place.come + minutes
        return Place(stop, come, come, place.held, place.rides, place.price)

    def behind_ride(self, place, leg):
        board = leg[3]
        off = leg[4]
        calls = self.calls_by(leg)
        if calls is None or calls[board][0] != place.stop or calls[board][2] < place.ready:
            return None
        bits = zones_of(self.net, leg[1], board, off)
        held = held_behind(self.net, place.held, (bits, calls[board][2]), leg[5])
        if held is None:
            return None
        stop = calls[off][0]
        come = calls[off][1]
        price = place.price + price_for(self.net, leg[5])
        return Place(stop, come, come + self.net.change(stop), held, place.rides + 1, price)

    def calls_by(self, leg):
        """The calls of a ride's run, or None where there is no such run or ride."""
        if leg[1] not in self.net.trips() or not is_number(leg[2], 0, LAST_DAY):
            return None
        calls = self.notices.moments(leg[1], leg[2])
        if calls is None or not 0 <= leg[3] < leg[4] < len(calls):
            return None
        return calls
