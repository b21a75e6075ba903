"""Zones as bits, the zones that a ride needs, and the tickets that have them."""

from roadbook.figures import check_number


def zone_bits(zones):
    """Zones as bits, zone 1 the lowest."""
    bits = 0
    for zone in zones:
        bits = bits | (1 << (zone - 1))
    return bits


def zones_of(net, trip, board, off):
    """The zones, as bits, of all calls of a trip from boarding to getting off."""
    calls = net.calls(trip)
    check_number(board, 0, len(calls) - 2)
    check_number(off, board + 1, len(calls) - 1)
    return zone_bits([net.zone(call[0]) for call in calls[board:off + 1]])


def fits(net, ticket, bits):
    """Whether a ticket has all these zones."""
    return zone_bits(net.ticket(ticket)[2]) & bits == bits
