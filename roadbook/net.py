"""A net: its stops, the walks between them, rules of days, tickets and trips."""

from roadbook.clocks import LAST_MINUTE
from roadbook.errors import BadCalls, BadName, BadNumber, NoRule, NoStop, NoTicket, NoTrip, TooMany, Twice
from roadbook.figures import are_rising, check_number, is_known, is_name
from roadbook.rules import copy_of

MOST_STOPS = 8
MOST_WALKS = 12
MOST_RULES = 6
MOST_TICKETS = 3
MOST_TRIPS = 10
LAST_ZONE = 6
MOST_CHANGE = 30
MOST_WALKED = 60
MOST_PRICE = 10000
MOST_LASTING = 1440
LEAST_CALLS = 2
MOST_CALLS = 6


def check_new(name, named):
    if not is_name(name):
        raise BadName("no name")
    if name in named:
        raise Twice("the name is there already")


def check_room(kept, most):
    if len(kept) >= most:
        raise TooMany("no more of these")


def have_calls_form(calls):
    """Whether it is a list of 2 to 6 tuples of three."""
    if not isinstance(calls, list) or not LEAST_CALLS <= len(calls) <= MOST_CALLS:
        return False
    return all([isinstance(call, tuple) and len(call) == 3 for call in calls])


def can_follow(call, ahead):
    """Whether a call may come next behind another one."""
    return call[0] != ahead[0] and call[1] > ahead[2]


class Net:
    """What journeys are planned by. All of it is kept by names, in the order in which it came."""

    def __init__(self):
        self.stop_rows = {}
        self.walk_rows = []
        self.rule_rows = {}
        self.ticket_rows = {}
        self.trip_rows = {}

    def copied(self):
        """Another net that tells the same."""
        # What the rows hold is never changed, so the rows themselves may stand in both.
        twin = Net()
        twin.stop_rows = dict(self.stop_rows)
        twin.walk_rows = list(self.walk_rows)
        twin.rule_rows = dict(self.rule_rows)
        twin.ticket_rows = dict(self.ticket_rows)
        twin.trip_rows = dict(self.trip_rows)
        return twin

    def add_stop(self, name, zone, change):
        check_new(name, self.stop_rows)
        check_number(zone, 1, LAST_ZONE)
        check_number(change, 0, MOST_CHANGE)
        check_room(self.stop_rows, MOST_STOPS)
        self.stop_rows[name] = (zone, change)

    def add_walk(self, one, other, minutes):
        self.check_stop(one)
        self.check_stop(other)
        if one == other or self.has_walk(one, other):
            raise Twice("one walk at most for two unlike stops")
        check_number(minutes, 1, MOST_WALKED)
        check_room(self.walk_rows, MOST_WALKS)
        self.walk_rows.append((one, other, minutes))

    def add_rule(self, name, rule):
        check_new(name, self.rule_rows)
        kept = copy_of(rule)
        check_room(self.rule_rows, MOST_RULES)
        self.rule_rows[name] = kept

    def add_ticket(self, name, price, lasts, zones):
        check_new(name, self.ticket_rows)
        check_number(price, 0, MOST_PRICE)
        check_number(lasts, 1, MOST_LASTING)
        if not are_rising(zones, LAST_ZONE, 1, LAST_ZONE):
            raise BadNumber("no list of rising zones")
        check_room(self.ticket_rows, MOST_TICKETS)
        self.ticket_rows[name] = (price, lasts, tuple(zones))

    def add_trip(self, name, rule, calls):
        check_new(name, self.trip_rows)
        if not is_known(rule, self.rule_rows):
            raise NoRule("no rule of this name")
        if not have_calls_form(calls):
            raise BadCalls("no list of calls")
        for number, call in enumerate(calls):
            self.check_call(call)
            if number > 0 and not can_follow(call, calls[number - 1]):
                raise BadCalls("the call can't follow the one ahead")
        check_room(self.trip_rows, MOST_TRIPS)
        self.trip_rows[name] = (rule, tuple([tuple(call) for call in calls]))

    def check_stop(self, name):
        if not is_known(name, self.stop_rows):
            raise NoStop("no such stop")

    def check_trip(self, name):
        if not is_known(name, self.trip_rows):
            raise NoTrip("no such trip")

    def check_call(self, call):
        self.check_stop(call[0])
        check_number(call[1], 0, LAST_MINUTE)
        check_number(call[2], 0, LAST_MINUTE)
        if call[2] < call[1]:
            raise BadCalls("leaves sooner than it arrives")

    def has_walk(self, one, other):
        return any([(walk[0], walk[1]) in ((one, other), (other, one)) for walk in self.walk_rows])

    def stops(self):
        return list(self.stop_rows)

    def walks(self):
        """Tuples (one, other, minutes)."""
        return list(self.walk_rows)

    def rules(self):
        return list(self.rule_rows)

    def tickets(self):
        return list(self.ticket_rows)

    def trips(self):
        return list(self.trip_rows)

    def zone(self, stop):
        self.check_stop(stop)
        return self.stop_rows[stop][0]

    def change(self, stop):
        self.check_stop(stop)
        return self.stop_rows[stop][1]

    def rule(self, name):
        if not is_known(name, self.rule_rows):
            raise NoRule("no rule of this name")
        return copy_of(self.rule_rows[name])

    def ticket(self, name):
        """A tuple (price, lasts, zones)."""
        if not is_known(name, self.ticket_rows):
            raise NoTicket("no such ticket")
        row = self.ticket_rows[name]
        return (row[0], row[1], list(row[2]))

    def rule_name(self, trip):
        self.check_trip(trip)
        return self.trip_rows[trip][0]

    def calls(self, trip):
        """Tuples (stop, arrive, leave)."""
        self.check_trip(trip)
        return list(self.trip_rows[trip][1])
