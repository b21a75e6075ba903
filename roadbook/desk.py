"""A desk: travellers and their plans, at a moment that is now, behind notices."""

from roadbook.clocks import LAST_MOMENT
from roadbook.errors import BadClock, NoPlan, NoTraveller, TooLate
from roadbook.figures import is_known, is_number
from roadbook.fronts import front_from
from roadbook.net import check_new, check_room
from roadbook.notices import Notices
from roadbook.plans import can_be_gone, copy_of_plan, gone
from roadbook.travel import beginnings_at, legs_to, where_at

MOST_TRAVELLERS = 8


def moments_of(calls):
    """All arrivings and leavings of some calls."""
    found = []
    for stop, arrive, leave in calls:
        found.extend([arrive, leave])
    return found


def moments_changed(before, after):
    """The moments of a run that a notice changes, as they were or as they would be, whichever is sooner."""
    # None stands for a run that is out: all of its moments come or go.
    if before is None:
        return moments_of(after)
    if after is None:
        return moments_of(before)
    return [min(old, new) for old, new in zip(moments_of(before), moments_of(after)) if old != new]


def last_stop(net, plan):
    """The stop where a plan leads, whether it can be gone or not."""
    for leg in reversed(plan[2]):
        if leg[0] == "walk":
            return leg[1]
        if leg[0] == "ride":
            return net.calls(leg[1])[leg[4]][0]
    return plan[0]


class Desk:
    """Travellers by a net, as it was when this was made."""

    def __init__(self, net):
        self.net = net.copied()
        self.notices = Notices(net)
        self.moment = 0
        self.plans = {}

    def now(self):
        return self.moment

    def wait(self, moment):
        """Till a moment, which is now then."""
        if not is_number(moment, 0, LAST_MOMENT):
            raise BadClock("no moment")
        if moment < self.moment:
            raise TooLate("the moment is past")
        self.moment = moment

    def names(self):
        return list(self.plans)

    def enter(self, name, plan):
        check_new(name, self.plans)
        check_room(self.plans, MOST_TRAVELLERS)
        gone(self.net, plan, self.notices)
        if plan[1] < self.moment:
            raise TooLate("the plan's begin is past")
        self.plans[name] = copy_of_plan(plan)

    def plan(self, name):
        return copy_of_plan(self.plan_of(name))

    def where(self, name):
        return where_at(self.net, self.plan_of(name), self.moment, self.notices)

    def late(self, trip, day, call, minutes):
        """As that of Notices; tells the names of who is broken and who is mended by it."""
        trial = self.notices.copied()
        trial.late(trip, day, call, minutes)
        return self.go_by(trial, trip, day)

    def out(self, trip, day):
        """As that of Notices; tells the names of who is broken and who is mended by it."""
        trial = self.notices.copied()
        trial.out(trip, day)
        return self.go_by(trial, trip, day)

    def back(self, trip, day):
        """As that of Notices; tells the names of who is broken and who is mended by it."""
        trial = self.notices.copied()
        trial.back(trip, day)
        return self.go_by(trial, trip, day)

    def again(self, name, other=None, most=3):
        """The front from where a traveller is, to the plan's last stop or another one."""
        plan = self.plan_of(name)
        goal = last_stop(self.net, plan) if other is None else other
        beginnings = beginnings_at(self.net, plan, self.moment, self.notices)
        return front_from(self.net, beginnings, goal, most, self.notices)

    def take(self, name, place, other=None, most=3):
        """The traveller goes on by the plan of this number that again tells."""
        found = self.again(name, other, most)
        if not is_number(place, 0, len(found) - 1):
            raise NoPlan(None)
        told = found[place][1]
        old = self.plans[name]
        if self.moment < old[1]:
            self.plans[name] = told
        else:
            kept = legs_to(self.net, old, self.moment, (told[0], told[1]), self.notices)
            self.plans[name] = (old[0], old[1], kept + told[2])

    def plan_of(self, name):
        if not is_known(name, self.plans):
            raise NoTraveller("no such traveller")
        return self.plans[name]

    def go_by(self, trial, trip, day):
        """Goes by other notices, where what they change of a run isn't past; tells who is broken and mended."""
        changed = moments_changed(self.notices.moments(trip, day), trial.moments(trip, day))
        if any([moment < self.moment for moment in changed]):
            raise TooLate("what the notice changes is past")
        before = self.names_going(self.notices)
        after = self.names_going(trial)
        self.notices = trial
        return ([name for name in before if name not in after], [name for name in after if name not in before])

    def names_going(self, notices):
        """Those whose plans can be gone behind some notices."""
        return [name for name, plan in self.plans.items() if can_be_gone(self.net, plan, notices)]
