"""Runs: trips on the days on which they run, as notices have them."""

from roadbook.clocks import DAY_MINUTES, LAST_DAY, LAST_MINUTE
from roadbook.notices import MOST_LATE, Notices


def runs_between(net, begin, end, notices=None):
    """All runs (trip, day, calls) that leave some call but their last from begin to end, both counted."""
    known = Notices(net) if notices is None else notices
    # A run of an earlier day has left all its calls ahead of begin, however late it may be.
    first = max(0, (begin - LAST_MINUTE - MOST_LATE) // DAY_MINUTES)
    last = min(LAST_DAY, end // DAY_MINUTES)
    found = []
    for trip in net.trips():
        for day in range(first, last + 1):
            calls = known.moments(trip, day)
            if calls is not None and leaves_within(calls, begin, end):
                found.append((trip, day, calls))
    return sorted(found, key=lambda run: (run[2][0][2], run[0], run[1]))


def leaves_within(calls, begin, end):
    """Whether a leaving, not of the last call, lies within, both ends counted."""
    return any([begin <= call[2] <= end for call in calls[:-1]])
