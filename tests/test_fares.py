import itertools
import random
import unittest

from roadbook.fares import least_tickets, price_of
from roadbook.net import Net

from nets import told_of


def net_by(*tickets):
    net = Net()
    for ticket in tickets:
        net.add_ticket(*ticket)
    return net


def plain_net():
    return net_by(("short", 200, 60, [1, 2]), ("wide", 500, 120, [1, 2, 3]), ("three", 150, 30, [3]))


def has_zones(net, name, bits):
    return all(zone in net.ticket(name)[2] for zone in range(1, 7) if bits >> (zone - 1) & 1)


def plain_price(net, rides, bought):
    """What one way costs, told ride by ride."""
    price, ticket, until = 0, None, None
    for (bits, moment), name in zip(rides, bought, strict=True):
        if name is not None:
            cost, lasts, zones = net.ticket(name)
            price, ticket, until = price + cost, name, moment + lasts
        elif ticket is None or moment >= until:
            return None
        if not has_zones(net, ticket, bits):
            return None
    return price


def all_ways(net, rides):
    return itertools.product([None] + net.tickets(), repeat=len(rides))


class PriceOf(unittest.TestCase):
    def setUp(self):
        self.net = plain_net()

    def price(self, rides, bought):
        return price_of(self.net, rides, bought)

    def test_no_rides(self):
        self.assertEqual(self.price([], []), 0)
        self.assertEqual(price_of(Net(), [], []), 0)

    def test_one_ride(self):
        self.assertEqual(self.price([(1, 100)], ["short"]), 200)
        self.assertEqual(self.price([(3, 100)], ["short"]), 200)
        self.assertEqual(self.price([(3, 100)], ["wide"]), 500)
        self.assertEqual(self.price([(4, 0)], ["three"]), 150)

    def test_nothing_held_at_first(self):
        self.assertIsNone(self.price([(1, 100)], [None]))
        self.assertIsNone(self.price([(1, 100), (1, 110)], [None, "short"]))
        self.assertIsNone(self.price([(1, 0)], [None]))

    def test_one_that_lacks_a_zone(self):
        self.assertIsNone(self.price([(4, 100)], ["short"]))
        self.assertIsNone(self.price([(5, 100)], ["short"]))
        self.assertIsNone(self.price([(8, 100)], ["wide"]))
        self.assertIsNone(self.price([(1, 100), (4, 110)], ["short", None]))
        self.assertIsNone(self.price([(1, 100), (6, 110)], ["short", "short"]))
        self.assertEqual(self.price([(1, 100), (6, 110)], ["wide", None]), 500)

    def test_a_ticket_a_minute_ahead_of_its_end_at_it_and_behind_it(self):
        self.assertEqual(self.price([(1, 100), (1, 159)], ["short", None]), 200)
        self.assertIsNone(self.price([(1, 100), (1, 160)], ["short", None]))
        self.assertIsNone(self.price([(1, 100), (1, 161)], ["short", None]))
        self.assertEqual(self.price([(1, 100), (1, 100)], ["short", None]), 200)
        net = net_by(("brief", 1, 1, [1]))
        self.assertEqual(price_of(net, [(1, 0), (1, 0)], ["brief", None]), 1)
        self.assertIsNone(price_of(net, [(1, 0), (1, 1)], ["brief", None]))

    def test_the_end_is_not_moved_by_holding(self):
        self.assertEqual(self.price([(1, 100), (1, 130), (1, 159)], ["short", None, None]), 200)
        self.assertIsNone(self.price([(1, 100), (1, 159), (1, 160)], ["short", None, None]))

    def test_the_same_one_bought_again(self):
        self.assertEqual(self.price([(1, 100), (1, 110)], ["short", "short"]), 400)
        self.assertEqual(self.price([(1, 100), (1, 159), (1, 218)], ["short", "short", None]), 400)
        self.assertIsNone(self.price([(1, 100), (1, 159), (1, 219)], ["short", "short", None]))

    def test_the_one_ahead_is_given_up(self):
        rides = [(1, 100), (4, 110), (1, 120)]
        self.assertIsNone(self.price(rides, ["short", "three", None]))
        self.assertEqual(self.price(rides, ["short", "three", "short"]), 550)
        self.assertIsNone(self.price([(7, 100), (1, 110), (4, 115)], ["wide", "short", None]))

    def test_four_rides(self):
        rides = [(1, 100), (2, 110), (3, 120), (1, 159)]
        self.assertEqual(self.price(rides, ["short", None, None, None]), 200)
        self.assertEqual(self.price(rides, ["short", "short", "short", "wide"]), 1100)
        self.assertEqual(self.price(rides, ["wide", None, "short", None]), 700)

    def test_a_ticket_that_the_net_has_not(self):
        self.assertIsNone(self.price([(1, 100)], ["none"]))
        self.assertIsNone(self.price([(1, 100), (1, 110)], ["short", "none"]))

    def test_a_price_of_0_and_of_10000(self):
        net = net_by(("free", 0, 1440, [1]), ("dear", 10000, 1, [1]))
        self.assertEqual(price_of(net, [(1, 0), (1, 1439)], ["free", None]), 0)
        self.assertIsNone(price_of(net, [(1, 0), (1, 1440)], ["free", None]))
        self.assertEqual(price_of(net, [(1, 0)] * 4, ["dear"] * 4), 40000)

    def test_nothing_is_changed(self):
        rides, bought, before = [(1, 100), (1, 110)], ["short", None], told_of(self.net)
        self.price(rides, bought)
        least_tickets(self.net, rides)
        self.assertEqual((rides, bought, told_of(self.net)), ([(1, 100), (1, 110)], ["short", None], before))


class LeastTickets(unittest.TestCase):
    def least(self, net, rides):
        """The least price by the plain account, held against what is told."""
        prices = [plain_price(net, rides, bought) for bought in all_ways(net, rides)]
        wanted = min([price for price in prices if price is not None], default=None)
        told = least_tickets(net, rides)
        if wanted is None:
            self.assertIsNone(told)
            return None
        self.assertIsInstance(told, tuple)
        price, bought = told
        self.assertIsInstance(bought, list)
        self.assertEqual(price, wanted)
        self.assertEqual(plain_price(net, rides, bought), wanted)
        self.assertEqual(price_of(net, rides, bought), wanted)
        return wanted

    def test_no_rides(self):
        self.assertEqual(least_tickets(plain_net(), []), (0, []))
        self.assertEqual(least_tickets(Net(), []), (0, []))

    def test_one_ride(self):
        self.assertEqual(least_tickets(plain_net(), [(3, 100)]), (200, ["short"]))
        self.assertEqual(least_tickets(plain_net(), [(4, 100)]), (150, ["three"]))
        self.assertEqual(least_tickets(plain_net(), [(6, 100)]), (500, ["wide"]))

    def test_none(self):
        self.assertIsNone(least_tickets(plain_net(), [(8, 100)]))
        self.assertIsNone(least_tickets(plain_net(), [(1, 100), (8, 110)]))
        self.assertIsNone(least_tickets(plain_net(), [(8, 100), (1, 110)]))
        self.assertIsNone(least_tickets(Net(), [(1, 100)]))
        self.assertIsNone(least_tickets(net_by(("a", 1, 9, [1]), ("b", 1, 9, [2])), [(3, 0)]))

    def test_a_dearer_one_that_lasts(self):
        net = net_by(("short", 200, 60, [1]), ("long", 350, 600, [1]))
        self.assertEqual(least_tickets(net, [(1, 0)]), (200, ["short"]))
        self.assertEqual(least_tickets(net, [(1, 0), (1, 60)]), (350, ["long", None]))
        self.assertEqual(least_tickets(net, [(1, 0), (1, 59)]), (200, ["short", None]))

    def test_a_dearer_one_with_more_zones(self):
        net = net_by(("one", 200, 60, [1]), ("two", 200, 60, [2]), ("both", 350, 60, [1, 2]))
        self.assertEqual(least_tickets(net, [(1, 0), (2, 10)]), (350, ["both", None]))

    def test_held_at_the_very_end(self):
        net = plain_net()
        self.assertEqual(self.least(net, [(1, 0), (1, 59)]), 200)
        self.assertEqual(self.least(net, [(1, 0), (1, 60)]), 400)
        self.assertEqual(self.least(net, [(1, 0), (1, 60), (1, 119)]), 400)
        self.assertEqual(self.least(net, [(1, 0), (1, 60), (1, 119), (1, 120)]), 600)

    def test_four_rides(self):
        net = plain_net()
        self.assertEqual(self.least(net, [(1, 0), (4, 10), (1, 20), (4, 30)]), 500)
        self.assertEqual(self.least(net, [(4, 0), (4, 29), (4, 30), (4, 60)]), 450)
        self.assertEqual(self.least(net, [(7, 0), (7, 119), (7, 120), (7, 239)]), 1000)

    def test_rides_at_one_moment(self):
        self.assertEqual(self.least(plain_net(), [(1, 5)] * 4), 200)

    def test_all_ways_of_some_small_rows(self):
        dice = random.Random(12)
        told = 0
        for _ in range(400):
            net = Net()
            for name in ["a", "b", "c"][:dice.randint(1, 3)]:
                zones = sorted(dice.sample([1, 2, 3], dice.randint(1, 3)))
                net.add_ticket(name, dice.randint(0, 12), dice.choice([1, 5, 10, 20, 40]), zones)
            moments = sorted(dice.randint(0, 30) for _ in range(dice.randint(0, 4)))
            rides = [(dice.choice([1, 2, 3, 4, 5, 7]), moment) for moment in moments]
            told = told + (self.least(net, rides) is not None)
            for bought in all_ways(net, rides):
                self.assertEqual(price_of(net, rides, list(bought)), plain_price(net, rides, bought))
        self.assertGreater(told, 100)

    def test_what_is_told_is_the_askers_own(self):
        net = plain_net()
        rides = [(1, 0), (1, 10)]
        for row in [rides, []]:
            told = least_tickets(net, row)
            told[1].append("more")
            self.assertEqual(least_tickets(net, row)[1], ["short", None][:len(row)])

    def test_lists_handed_in_may_be_changed_behind(self):
        net = plain_net()
        rides = [(1, 0), (1, 10)]
        told = least_tickets(net, rides)
        rides.clear()
        net.add_stop("a", 1, 1)
        self.assertEqual(told, (200, ["short", None]))


if __name__ == "__main__":
    unittest.main()
