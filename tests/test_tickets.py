import unittest

from roadbook.errors import BadNumber, NoTicket, NoTrip, RoadError
from roadbook.net import Net
from roadbook.rules import Rule
from roadbook.tickets import fits, zone_bits, zones_of

from kinds import HUGE, NO_NUMBERS, NO_TEXTS, UNKNOWN
from nets import told_of


def zone_net():
    """Stops a to f in zones 1 to 6, a trip over all of them and one there and back."""
    net = Net()
    for number, name in enumerate("abcdef"):
        net.add_stop(name, number + 1, 0)
    net.add_rule("all", Rule())
    net.add_ticket("one", 100, 60, [1])
    net.add_ticket("odd", 200, 60, [1, 3, 5])
    net.add_ticket("each", 300, 60, [1, 2, 3, 4, 5, 6])
    net.add_trip("line", "all", [(name, 10 * at, 10 * at + 5) for at, name in enumerate("abcdef")])
    net.add_trip("turn", "all", [("f", 0, 0), ("a", 1, 1), ("f", 2, 2)])
    net.add_trip("pair", "all", [("c", 0, 0), ("e", 1, 1)])
    return net


class TicketsCase(unittest.TestCase):
    def setUp(self):
        self.net = zone_net()

    def refused(self, error, function, *arguments):
        before = told_of(self.net)
        with self.assertRaises(RoadError) as caught:
            function(self.net, *arguments)
        self.assertIs(caught.exception.__class__, error)
        self.assertEqual(told_of(self.net), before)


class ZoneBits(unittest.TestCase):
    def test_one_zone(self):
        self.assertEqual([zone_bits([zone]) for zone in range(1, 7)], [1, 2, 4, 8, 16, 32])

    def test_several(self):
        for zones, bits in [
            ([], 0), ([1, 2], 3), ([1, 3], 5), ([2, 6], 34), ([5, 6], 48), ([1, 2, 3, 4, 5, 6], 63), ([1, 2, 4], 11),
        ]:
            self.assertEqual(zone_bits(zones), bits)

    def test_a_list_is_not_changed(self):
        zones = [1, 4]
        zone_bits(zones)
        self.assertEqual(zones, [1, 4])


class ZonesOf(TicketsCase):
    def test_each_ride_of_a_line(self):
        for board in range(6):
            for off in range(board + 1, 6):
                wanted = sum(2 ** zone for zone in range(board, off + 1))
                self.assertEqual(zones_of(self.net, "line", board, off), wanted)

    def test_both_ends_and_all_between(self):
        self.assertEqual(zones_of(self.net, "line", 0, 1), 3)
        self.assertEqual(zones_of(self.net, "line", 4, 5), 48)
        self.assertEqual(zones_of(self.net, "line", 0, 5), 63)
        self.assertEqual(zones_of(self.net, "line", 1, 3), 14)
        self.assertEqual(zones_of(self.net, "pair", 0, 1), 20)

    def test_a_zone_that_comes_twice(self):
        self.assertEqual(zones_of(self.net, "turn", 0, 2), 33)
        self.assertEqual(zones_of(self.net, "turn", 1, 2), 33)

    def test_trips(self):
        for wrong in NO_TEXTS + UNKNOWN + ["a", "all", "one"]:
            self.refused(NoTrip, zones_of, wrong, 0, 1)
            self.refused(NoTrip, zones_of, wrong, -1, None)

    def test_numbers(self):
        for board, off in [(-1, 1), (0, 0), (1, 0), (1, 1), (0, 6), (5, 6), (5, 5), (6, 7), (0, -1), (-2, -1), (4, 4)]:
            self.refused(BadNumber, zones_of, "line", board, off)
        self.refused(BadNumber, zones_of, "pair", 0, 2)
        self.refused(BadNumber, zones_of, "pair", 1, 2)
        for wrong in HUGE + NO_NUMBERS:
            self.refused(BadNumber, zones_of, "line", wrong, 1)
            self.refused(BadNumber, zones_of, "line", 0, wrong)
            self.refused(BadNumber, zones_of, "line", wrong, wrong)


class Fits(TicketsCase):
    def test_all_bits(self):
        for ticket, zones in [("one", {1}), ("odd", {1, 3, 5}), ("each", {1, 2, 3, 4, 5, 6})]:
            for bits in range(64):
                needed = {zone for zone in range(1, 7) if bits & 2 ** (zone - 1)}
                self.assertIs(fits(self.net, ticket, bits), needed <= zones)

    def test_rides(self):
        self.assertIs(fits(self.net, "odd", zones_of(self.net, "pair", 0, 1)), True)
        self.assertIs(fits(self.net, "odd", zones_of(self.net, "line", 2, 4)), False)
        self.assertIs(fits(self.net, "each", zones_of(self.net, "line", 0, 5)), True)

    def test_refusals(self):
        for wrong in NO_TEXTS + UNKNOWN + ["a", "all", "line"]:
            self.refused(NoTicket, fits, wrong, 1)


if __name__ == "__main__":
    unittest.main()
