"""Notices of runs: late, out, or back as the timetable has them."""

from roadbook.clocks import DAY_MINUTES, LAST_DAY
from roadbook.errors import BadCalls, BadClock, NoRun, NoTrip
from roadbook.figures import check_number, is_known, is_number
from roadbook.net import Net, can_follow

MOST_LATE = 300


def moved(calls, begin, late):
    """Calls as moments: so many minutes behind a day's beginning, and each so many late."""
    return [
        (call[0], begin + minutes + call[1], begin + minutes + call[2]) for call, minutes in zip(calls, late)]


def check_rising(calls):
    """Refuses calls of which one can't follow the one ahead."""
    # A call's arriving and leaving are late alike, so it can't come to leave sooner than it arrives.
    for number in range(1, len(calls)):
        if not can_follow(calls[number], calls[number - 1]):
            raise BadCalls("arrives no later than the call ahead leaves")


class Notices:
    """What is told of the runs of a net, as the net was when this was made."""

    def __init__(self, net):
        self.timetable = {}
        for trip in net.trips():
            self.timetable[trip] = (net.rule(net.rule_name(trip)), net.calls(trip))
        # By (day, trip): the runs that are out, and the minutes of each call of the late ones.
        self.taken = {}
        self.lateness = {}

    def copied(self):
        """Other notices of the same net that tell the same."""
        twin = Notices(Net())
        twin.timetable = dict(self.timetable)
        twin.taken = dict(self.taken)
        twin.lateness = dict(self.lateness)
        return twin

    def late(self, trip, day, call, minutes):
        """From a call on the run is so many minutes behind the timetable."""
        self.check_goes(trip, day)
        calls = self.timetable[trip][1]
        check_number(call, 0, len(calls) - 1)
        check_number(minutes, 0, MOST_LATE)
        late = self.late_minutes(trip, day)[:call] + [minutes] * (len(calls) - call)
        check_rising(moved(calls, 0, late))
        self.lateness[(day, trip)] = late

    def out(self, trip, day):
        """The run doesn't run."""
        self.check_goes(trip, day)
        self.lateness.pop((day, trip), None)
        self.taken[(day, trip)] = True

    def back(self, trip, day):
        """The run is as the timetable has it."""
        self.check_runs(trip, day)
        self.lateness.pop((day, trip), None)
        self.taken.pop((day, trip), None)

    def moments(self, trip, day):
        """The run's calls as moments, or None where it doesn't run or is out."""
        self.check_day(trip, day)
        if not self.timetable[trip][0].runs(day) or (day, trip) in self.taken:
            return None
        return moved(self.timetable[trip][1], day * DAY_MINUTES, self.late_minutes(trip, day))

    def told(self):
        """Rows (day, trip, "out") or (day, trip, minutes of each call) of what is not on time."""
        rows = [(day, trip, "out") for day, trip in self.taken]
        for day, trip in self.lateness:
            late = self.late_minutes(trip, day)
            if any([minutes > 0 for minutes in late]):
                rows.append((day, trip, late))
        return sorted(rows, key=lambda row: row[:2])

    def late_minutes(self, trip, day):
        """The minutes that each call is late, in a list of its own."""
        on_time = [0] * len(self.timetable[trip][1])
        return list(self.lateness.get((day, trip), on_time))

    def check_day(self, trip, day):
        if not is_known(trip, self.timetable):
            raise NoTrip("no such trip")
        if not is_number(day, 0, LAST_DAY):
            raise BadClock("no day")

    def check_runs(self, trip, day):
        self.check_day(trip, day)
        if not self.timetable[trip][0].runs(day):
            raise NoRun("doesn't run on that day")

    def check_goes(self, trip, day):
        self.check_runs(trip, day)
        if (day, trip) in self.taken:
            raise NoRun("is out on that day")
