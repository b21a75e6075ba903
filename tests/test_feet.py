import random
import unittest

from roadbook.errors import NoStop, RoadError
from roadbook.feet import Feet
from roadbook.net import Net

from kinds import NO_TEXTS, UNKNOWN
from nets import full_net, told_of


def net_by(stops, walks):
    net = Net()
    for name in stops:
        net.add_stop(name, 1, 0)
    for one, other, minutes in walks:
        net.add_walk(one, other, minutes)
    return net


def lengths(net):
    """The minutes of each walk, both ways."""
    both = {}
    for one, other, minutes in net.walks():
        both[one, other] = both[other, one] = minutes
    return both


def least_of_all(both, stop, other, gone=()):
    """The least minutes, by going all ways on which no stop comes twice."""
    if stop == other:
        return 0
    found = []
    for (one, following), minutes in both.items():
        if one == stop and following not in gone:
            rest = least_of_all(both, following, other, gone + (stop,))
            if rest is not None:
                found.append(minutes + rest)
    return min(found, default=None)


class FeetTests(unittest.TestCase):
    def holds(self, net):
        feet = Feet(net)
        both = lengths(net)
        for one in net.stops():
            for other in net.stops():
                wanted = least_of_all(both, one, other)
                self.assertEqual(feet.minutes(one, other), wanted)
                self.way_holds(feet.way(one, other), one, other, both, wanted)

    def way_holds(self, way, one, other, both, wanted):
        if wanted is None:
            self.assertIsNone(way)
            return
        self.assertIsInstance(way, list)
        self.assertEqual((way[0], way[-1]), (one, other))
        self.assertEqual(sum(both[pair] for pair in zip(way, way[1:])), wanted)

    def test_no_walks(self):
        feet = Feet(net_by("ab", []))
        self.assertEqual(feet.minutes("a", "a"), 0)
        self.assertEqual(feet.way("a", "a"), ["a"])
        self.assertIsNone(feet.minutes("a", "b"))
        self.assertIsNone(feet.way("a", "b"))

    def test_one_walk_both_ways(self):
        feet = Feet(net_by("abc", [("a", "b", 7)]))
        self.assertEqual((feet.minutes("a", "b"), feet.minutes("b", "a")), (7, 7))
        self.assertEqual((feet.way("a", "b"), feet.way("b", "a")), (["a", "b"], ["b", "a"]))
        self.assertEqual(feet.minutes("b", "b"), 0)
        self.assertIsNone(feet.minutes("a", "c"))
        self.assertIsNone(feet.way("c", "b"))

    def test_several_walks_behind_one_another(self):
        feet = Feet(net_by("abcd", [("a", "b", 60), ("c", "b", 60), ("c", "d", 60)]))
        self.assertEqual(feet.minutes("a", "d"), 180)
        self.assertEqual(feet.way("a", "d"), ["a", "b", "c", "d"])
        self.assertEqual(feet.way("d", "a"), ["d", "c", "b", "a"])

    def test_the_longer_row_of_walks_may_be_the_shorter_way(self):
        feet = Feet(net_by("abcd", [("a", "d", 60), ("a", "b", 10), ("b", "c", 10), ("c", "d", 10)]))
        self.assertEqual((feet.minutes("a", "d"), feet.way("a", "d")), (30, ["a", "b", "c", "d"]))
        feet = Feet(net_by("dcba", [("c", "d", 10), ("a", "d", 29), ("b", "c", 10), ("a", "b", 10)]))
        self.assertEqual((feet.minutes("a", "d"), feet.way("a", "d")), (29, ["a", "d"]))

    def test_ways_that_are_alike(self):
        net = net_by("abcd", [("a", "b", 10), ("b", "d", 10), ("a", "c", 10), ("c", "d", 10), ("a", "d", 20)])
        self.holds(net)
        self.assertEqual(Feet(net).way("a", "d"), Feet(net).way("a", "d"))

    def test_eight_stops_in_a_row(self):
        stops = "abcdefgh"
        for order in [stops, "hgfedcba", "dahbgcfe"]:
            net = net_by(order, [(one, other, 1) for one, other in zip(stops, stops[1:])])
            self.holds(net)
            self.assertEqual(Feet(net).way("h", "a"), list(reversed(stops)))

    def test_many_nets(self):
        dice = random.Random(7)
        for _ in range(120):
            stops = dice.sample("abcdefgh", dice.randint(1, 8))
            pairs = [(one, other) for one in stops for other in stops if one < other]
            walks = [(one, other, dice.randint(1, dice.choice([3, 60])))
                     for one, other in dice.sample(pairs, min(len(pairs), dice.randint(0, 12)))]
            self.holds(net_by(stops, walks))
        self.holds(full_net())

    def test_refusals(self):
        feet = Feet(net_by("ab", [("a", "b", 7)]))
        for method in [feet.minutes, feet.way]:
            for wrong in NO_TEXTS + UNKNOWN:
                for arguments in [(wrong, "a"), ("a", wrong), (wrong, wrong)]:
                    with self.assertRaises(RoadError) as caught:
                        method(*arguments)
                    self.assertIs(caught.exception.__class__, NoStop)
        self.assertEqual((feet.minutes("a", "b"), feet.way("a", "b")), (7, ["a", "b"]))

    def test_no_stops_at_all(self):
        self.assertRaises(NoStop, Feet(Net()).minutes, "a", "a")
        self.assertRaises(NoStop, Feet(Net()).way, "a", "a")

    def test_the_net_as_it_was(self):
        net = net_by("abc", [("a", "b", 7)])
        feet = Feet(net)
        net.add_walk("b", "c", 1)
        net.add_stop("d", 1, 0)
        net.add_walk("a", "d", 1)
        self.assertIsNone(feet.minutes("a", "c"))
        self.assertIsNone(feet.way("a", "c"))
        self.assertRaises(NoStop, feet.minutes, "a", "d")
        self.assertRaises(NoStop, feet.way, "d", "d")
        self.assertEqual(Feet(net).minutes("d", "c"), 9)

    def test_told_ways_may_be_changed(self):
        feet = Feet(net_by("abc", [("a", "b", 7), ("b", "c", 7)]))
        for one, other in [("a", "c"), ("a", "a"), ("a", "b")]:
            told = feet.way(one, other)
            kept = list(told)
            told.append("more")
            told[0] = "less"
            self.assertEqual(feet.way(one, other), kept)

    def test_the_net_is_not_changed(self):
        net = full_net()
        before = told_of(net)
        feet = Feet(net)
        feet.way("a", "h")
        self.assertEqual(told_of(net), before)


if __name__ == "__main__":
    unittest.main()
