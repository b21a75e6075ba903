"""A plain account of journeys, for the tests: it goes through all of them, ride by ride, and leaves none out."""

import random

from roadbook.errors import BadCalls, NoRun
from roadbook.net import Net
from roadbook.notices import Notices
from roadbook.rules import Each, Rule, Week

DAY = 1440


def walked(net, one, other):
    """The least minutes over all ways of walks that pass no stop twice."""
    best = None
    ways = [(one, 0, [one])]
    while ways:
        stop, minutes, seen = ways.pop()
        if stop == other and (best is None or minutes < best):
            best = minutes
        for first, last, more in net.walks():
            for here, there in [(first, last), (last, first)]:
                if here == stop and there not in seen:
                    ways.append((there, minutes + more, seen + [there]))
    return best


def all_runs(net, notices, begin, end):
    """The runs of all days that may touch the time."""
    found = []
    for trip in net.trips():
        for day in range(max(0, begin // DAY - 4), min(9999, end // DAY) + 1):
            calls = (notices or Notices(net)).moments(trip, day)
            if calls is not None:
                found.append((trip, day, calls))
    return found


def has_zones(net, ticket, calls):
    return all(net.zone(call[0]) in net.ticket(ticket)[2] for call in calls)


def plain_follow(net, label, end, notices=None, runs=None):
    """All labels behind one more ride, each with the legs that lead there."""
    stop, come, rides, price, ticket, until = label
    found = {}
    for trip, day, calls in all_runs(net, notices, come, end) if runs is None else runs:
        for board in range(len(calls)):
            place, arrive, leave = calls[board]
            if place == stop:
                wanted = come + (net.change(stop) if rides > 0 else 0)
            elif walked(net, stop, place) is not None:
                wanted = come + walked(net, stop, place)
            else:
                continue
            if leave < wanted:
                continue
            for off in range(board + 1, len(calls)):
                if calls[off][1] > end:
                    continue
                ways = []
                if ticket is not None and leave < until and has_zones(net, ticket, calls[board:off + 1]):
                    ways.append((None, price, ticket, until))
                for name in net.tickets():
                    if has_zones(net, name, calls[board:off + 1]):
                        cost, lasts, zones = net.ticket(name)
                        ways.append((name, price + cost, name, leave + lasts))
                for bought, paid, held, last in ways:
                    if last <= calls[off][1]:
                        held, last = None, -1
                    legs = ([] if place == stop else [("walk", place)]) + [("ride", trip, day, board, off, bought)]
                    found.setdefault((calls[off][0], calls[off][1], rides + 1, paid, held, last), legs)
    return found


def all_labels(net, beginnings, most, notices=None):
    """All labels of at most so many rides that come in time."""
    first = min(moment for stop, moment in beginnings)
    runs = all_runs(net, notices, first, first + DAY)
    found = {(stop, moment, 0, 0, None, -1) for stop, moment in beginnings if moment <= first + DAY}
    fresh = found
    for _ in range(most):
        fresh = {later for label in fresh for later in plain_follow(net, label, first + DAY, notices, runs)}
        found = found | fresh
    return found


def plain_order(label):
    stop, come, rides, price, ticket, until = label
    return (stop, come, rides, price, until, ticket is not None, ticket or "")


def as_good(one, other):
    if one[0] != other[0] or any(one[at] > other[at] for at in (1, 2, 3)):
        return False
    return other[4] is None or one[4] == other[4] and one[5] >= other[5]


def plain_least(net, beginnings, most, notices=None):
    labels = all_labels(net, beginnings, most, notices)
    least = [each for each in labels if not any(other != each and as_good(other, each) for other in labels)]
    return sorted(least, key=plain_order)


def plain_rounds(net, stop, begin, most, notices=None):
    labels = all_labels(net, [(stop, begin)], most, notices)
    found = []
    for rides in range(most + 1):
        told = {}
        for label in labels:
            if label[2] <= rides:
                told[label[0]] = min(label[1], told.get(label[0], label[1]))
        found.append(told)
    return found


def all_worths(net, beginnings, other, most, notices=None):
    """The worths of all journeys to a stop that come in time."""
    end = min(moment for stop, moment in beginnings) + DAY
    found = set()
    for label in all_labels(net, beginnings, most, notices):
        minutes = walked(net, label[0], other)
        if minutes is not None and label[1] + minutes <= end:
            found.add((label[1] + minutes, label[2], label[3]))
    return found


def plain_worths(net, beginnings, other, most, notices=None):
    worths = all_worths(net, beginnings, other, most, notices)
    return sorted(
        worth for worth in worths
        if not any(each != worth and all(a <= b for a, b in zip(each, worth)) for each in worths))


def drawn_net(seed, stops=4, trips=6):
    """A small net, its trips close enough to one another that one can change."""
    draw = random.Random(seed)
    net = Net()
    names = "abcdefgh"[:stops]
    for name in names:
        net.add_stop(name, draw.randint(1, 3), draw.choice([0, 0, 3, 5, 10]))
    for _ in range(draw.randint(0, stops - 1)):
        one, other = draw.sample(names, 2)
        if not any({one, other} == {first, last} for first, last, minutes in net.walks()):
            net.add_walk(one, other, draw.choice([3, 5, 10, 20, 60]))
    net.add_rule("all", Rule())
    net.add_rule("work", Week(31))
    net.add_rule("odd", Each(2, [1]))
    rows = [("one", 90, [1]), ("two", 140, [1, 2]), ("three", 160, [2, 3]), ("all", 320, [1, 2, 3])]
    for name, price, zones in draw.sample(rows[:3], draw.randint(0, 2)) + [rows[3]]:
        net.add_ticket(name, price, draw.choice([10, 20, 40, 60, 1440]), zones)
    for number in range(trips):
        minute = draw.choice([300, 300, 300, 1400]) + draw.randint(0, 12) * 5
        calls = []
        place = None
        for _ in range(draw.randint(2, 5)):
            place = draw.choice([name for name in names if name != place])
            leave = minute + draw.choice([0, 0, 5, 10])
            calls.append((place, minute, leave))
            minute = leave + draw.choice([1, 5, 5, 10, 20])
        net.add_trip("klmnopqrst"[number], draw.choice(["all", "all", "all", "work", "odd"]), calls)
    return net


def drawn_notices(net, seed, days, count=4):
    """Some notices of runs on these days; what can't be told is passed over."""
    draw = random.Random(seed)
    notices = Notices(net)
    for _ in range(count):
        tell_any(notices, net, draw, days)
    return notices


def tell_any(told, net, draw, days):
    """Tells a drawn notice; whether it was taken, and what came of it."""
    trip, day = draw.choice(net.trips()), draw.choice(days)
    kind = draw.choice(["late", "late", "late", "out", "back"])
    try:
        if kind == "late":
            call = draw.randrange(len(net.calls(trip)))
            return True, told.late(trip, day, call, draw.choice([0, 1, 5, 10, 30, 60, 300]))
        return True, getattr(told, kind)(trip, day)
    except (NoRun, BadCalls):
        return False, None
