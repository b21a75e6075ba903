"""A watch: a front of its own, planned again behind the notices that may change it."""

from roadbook.errors import TooMany
from roadbook.fronts import front_from
from roadbook.notices import Notices
from roadbook.plans import copy_of_plan
from roadbook.rides import MOST_MINUTES, check_journey
from roadbook.runs import leaves_within


class Watch:
    """Journeys from one stop to another at a begin, by the net as it was when this was made, behind notices."""

    def __init__(self, net, one, other, begin, most=3):
        check_journey(net, [one, other], begin, most)
        self.net = net.copied()
        self.notices = Notices(net)
        self.beginning = (one, begin)
        self.goal = other
        self.most = most
        self.plannings = 0
        # None where planning was refused.
        self.found = None
        self.plan_anew()

    def late(self, trip, day, call, minutes):
        """As that of Notices; True where it planned again."""
        ahead = self.matters(trip, day)
        self.notices.late(trip, day, call, minutes)
        return self.plan_behind(ahead or self.matters(trip, day))

    def out(self, trip, day):
        """As that of Notices; True where it planned again."""
        ahead = self.matters(trip, day)
        self.notices.out(trip, day)
        return self.plan_behind(ahead)

    def back(self, trip, day):
        """As that of Notices; True where it planned again."""
        ahead = self.matters(trip, day)
        self.notices.back(trip, day)
        return self.plan_behind(ahead or self.matters(trip, day))

    def front(self):
        """Tuples (worth, plan)."""
        if self.found is None:
            raise TooMany("too many labels")
        return [(worth, copy_of_plan(plan)) for worth, plan in self.found]

    def made(self):
        """How often it planned."""
        return self.plannings

    def matters(self, trip, day):
        """Whether the run has a leaving within the time of the journeys."""
        calls = self.notices.moments(trip, day)
        begin = self.beginning[1]
        return calls is not None and leaves_within(calls, begin, begin + MOST_MINUTES)

    def plan_behind(self, wanted):
        if wanted:
            self.plan_anew()
        return wanted

    def plan_anew(self):
        self.plannings = self.plannings + 1
        try:
            self.found = front_from(self.net, [self.beginning], self.goal, self.most, self.notices)
        except TooMany:
            self.found = None
