"""A net's text."""

from roadbook.clocks import clock_text
from roadbook.ruletext import rule_text


def net_text(net):
    """A net's rows, sort by sort, a line end behind each."""
    rows = [stop_row(net, name) for name in net.stops()]
    rows.extend([joined(["walk"] + list(walk)) for walk in net.walks()])
    rows.extend([joined(["days", name, rule_text(net.rule(name))]) for name in net.rules()])
    rows.extend([ticket_row(net, name) for name in net.tickets()])
    rows.extend([trip_row(net, name) for name in net.trips()])
    return "".join([row + "\n" for row in rows])


def joined(words):
    return " ".join([str(word) for word in words])


def stop_row(net, name):
    return joined(["stop", name, net.zone(name), net.change(name)])


def ticket_row(net, name):
    ticket = net.ticket(name)
    zones = "".join([str(zone) for zone in ticket[2]])
    return joined(["ticket", name, ticket[0], ticket[1], zones])


def trip_row(net, name):
    words = ["trip", name, net.rule_name(name)]
    for stop, arrive, leave in net.calls(name):
        words.extend([stop, clock_text(arrive), clock_text(leave)])
    return joined(words)
