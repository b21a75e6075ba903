"""What a row of rides costs, by the tickets that are held and bought."""

from roadbook.tickets import fits

# A ticket that is held, and its end.
NOTHING_HELD = (None, -1)


def price_of(net, rides, bought):
    """What a row of rides costs where these tickets are bought, or None where it can't be so."""
    price = 0
    held = NOTHING_HELD
    for ride, name in zip(rides, bought):
        held = held_behind(net, held, ride, name)
        if held is None:
            return None
        price = price + price_for(net, name)
    return price


def least_tickets(net, rides):
    """The least price of a row of rides and what is bought for it, or None where there is none."""
    ways = [(0, [], NOTHING_HELD)]
    for ride in rides:
        ways = ways_behind(net, ways, ride)
    if len(ways) == 0:
        return None
    best = min(ways, key=lambda way: way[0])
    return (best[0], best[1])


def held_behind(net, held, ride, name):
    """What is held behind boarding, with this one bought or with None held still; None where it can't be."""
    ticket = held[0] if name is None else name
    if ticket not in net.tickets() or not fits(net, ticket, ride[0]):
        return None
    if name is not None:
        return (name, ride[1] + net.ticket(name)[1])
    return held if ride[1] < held[1] else None


def price_for(net, name):
    return 0 if name is None else net.ticket(name)[0]


def ways_behind(net, ways, ride):
    """The ways (price, bought, held) behind one more ride."""
    # What comes later hangs on what is held alone, so the cheapest way to hold it is enough.
    cheapest = {}
    for price, bought, held in ways:
        for name in [None] + net.tickets():
            kept = held_behind(net, held, ride, name)
            if kept is None:
                continue
            way = (price + price_for(net, name), bought + [name], kept)
            if kept not in cheapest or way[0] < cheapest[kept][0]:
                cheapest[kept] = way
    return list(cheapest.values())
