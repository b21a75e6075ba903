"""Nets for the tests, and all that a net tells."""

from roadbook.net import Net
from roadbook.rules import Both, But, Each, Either, Rule, Span, Week


def told_of(net):
    """All that a net tells, in a form that may be compared."""
    return (
        [(name, net.zone(name), net.change(name)) for name in net.stops()],
        net.walks(),
        [(name, net.rule(name).words()) for name in net.rules()],
        [(name, net.ticket(name)) for name in net.tickets()],
        [(name, net.rule_name(name), net.calls(name)) for name in net.trips()],
    )


def small_net():
    """Three stops, a walk, two rules, two tickets and two trips."""
    net = Net()
    net.add_stop("a", 1, 5)
    net.add_stop("b", 2, 0)
    net.add_stop("c", 3, 30)
    net.add_walk("a", "b", 7)
    net.add_rule("all", Rule())
    net.add_rule("week", Week(31))
    net.add_ticket("short", 200, 60, [1, 2])
    net.add_ticket("wide", 500, 120, [1, 2, 3])
    net.add_trip("slow", "all", [("a", 480, 480), ("b", 500, 505), ("c", 530, 530)])
    net.add_trip("night", "week", [("c", 1430, 1435), ("a", 1450, 1455)])
    return net


def full_net():
    """As much of each sort as there may be."""
    net = Net()
    stops = "abcdefgh"
    for number, name in enumerate(stops):
        net.add_stop(name, number % 6 + 1, number * 4)
    for number in range(12):
        net.add_walk(stops[number % 7], stops[number % 7 + 1 + number // 7], number * 5 + 1)
    rules = [Rule(), Week(31), Span(10, 20, Rule()), Each(14, [0, 3]), Either(Week(1), Both(Rule(), Week(2))),
             But([5, 6], Rule())]
    for number, rule in enumerate(rules):
        net.add_rule("r" + stops[number], rule)
    net.add_ticket("free", 0, 1, [1])
    net.add_ticket("day", 10000, 1440, [1, 2, 3, 4, 5, 6])
    net.add_ticket("odd", 350, 90, [1, 3, 5])
    for number in range(10):
        calls = [(stops[(number + at) % 8], 240 * number + 20 * at, 240 * number + 20 * at + number)
                 for at in range(2 + number % 5)]
        net.add_trip("t" + "abcdefghij"[number], "r" + stops[number % 6], calls)
    return net


def crowded_net(tickets, lasts=1440):
    """From a at 0 on there are 148 least labels, and one more for each of at most 3 tickets."""
    net = Net()
    # Nobody who gets off can board one of the later runs, so all of them are of one ride.
    for name in "abcdegh":
        net.add_stop(name, 1, 30)
    # The last stop of the last trip has a zone that not all of the tickets have.
    net.add_stop("f", 2, 30)
    net.add_rule("all", Rule())
    for number, name in enumerate("xyz"):
        net.add_ticket(name, 100 + number, lasts, [1, 2] if number < tickets else [1])
    for number, name in enumerate("klmnopqrst"):
        stops = "abcde" + ("f" if number == 9 else "g")
        net.add_trip(name, "all", [(stop, number + at * 20, number + at * 20) for at, stop in enumerate(stops)])
    return net
