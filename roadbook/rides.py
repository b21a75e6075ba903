"""Rides by runs, and which of them can be boarded from where one stands."""

from roadbook.clocks import check_begin
from roadbook.feet import Feet
from roadbook.figures import check_number
from roadbook.runs import runs_between
from roadbook.tickets import fits, zones_of

MOST_RIDES = 3
MOST_MINUTES = 1440


def check_journey(net, stops, begin, most):
    """Refuses what no journey can be looked for by."""
    for stop in stops:
        net.check_stop(stop)
    check_begin(begin)
    check_most(most)


def check_most(most):
    check_number(most, 0, MOST_RIDES)


class Ride:
    """A ride by a run, from the call where one boards to a later one, with the tickets that have its zones."""

    def __init__(self, run, board, off, bits, fitting):
        calls = run[2]
        self.trip = run[0]
        self.day = run[1]
        self.board = board
        self.off = off
        self.start = calls[board][0]
        self.leave = calls[board][2]
        self.goal = calls[off][0]
        self.arrive = calls[off][1]
        self.bits = bits
        self.fitting = fitting


class Rides:
    """All rides within some time that some ticket has the zones for, by the stops where one boards."""

    def __init__(self, net, begin, end, notices=None):
        self.feet = Feet(net)
        self.changing = dict([(stop, net.change(stop)) for stop in net.stops()])
        # By names, so that what is found doesn't hang on the order in which stops and tickets came.
        self.leaving = dict([(stop, []) for stop in sorted(net.stops())])
        self.known = {}
        for run in runs_between(net, begin, end, notices):
            self.put_run(net, run, end)

    def put_run(self, net, run, end):
        calls = run[2]
        for board in range(len(calls) - 1):
            for off in range(board + 1, len(calls)):
                row = self.tickets_for(net, run[0], board, off)
                if calls[off][1] <= end and len(row[1]) > 0:
                    self.leaving[calls[board][0]].append(Ride(run, board, off, row[0], row[1]))

    def tickets_for(self, net, trip, board, off):
        """The zones of a ride, and the names of the tickets that have them."""
        # They are the same on each day, so they are looked up once.
        place = (trip, board, off)
        if place not in self.known:
            bits = zones_of(net, trip, board, off)
            self.known[place] = (bits, [name for name in sorted(net.tickets()) if fits(net, name, bits)])
        return self.known[place]

    def boarded_from(self, stop, come, rode):
        """The rides that can be boarded behind coming to a stop, there or behind a walk."""
        found = []
        for start, leaving in self.leaving.items():
            ready = self.ready_at(start, stop, come, rode)
            if ready is not None:
                found.extend([ride for ride in leaving if ride.leave >= ready])
        return found

    def ready_at(self, start, stop, come, rode):
        """The moment from which on one can board at a stop, or None."""
        if start == stop:
            return come + self.changing[stop] if rode else come
        minutes = self.feet.minutes(stop, start)
        return None if minutes is None else come + minutes
