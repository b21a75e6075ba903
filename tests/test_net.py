import unittest

from roadbook.errors import (
    BadCalls, BadName, BadNumber, BadRule, NoRule, NoStop, NoTicket, NoTrip, RoadError, TooMany, Twice)
from roadbook.net import Net
from roadbook.rules import But, Each, Rule, Span, Week

from kinds import HUGE, LISTS, NO_LISTS, NO_NAMES, NO_NUMBERS, NO_RULES, NO_TEXTS, UNKNOWN
from nets import full_net, small_net, told_of

GOOD_CALLS = [("a", 10, 20), ("b", 30, 40)]


class NetCase(unittest.TestCase):
    def setUp(self):
        self.net = small_net()

    def refused(self, error, method, *arguments):
        """Refused by just this class, and nothing has changed behind it."""
        before = told_of(self.net)
        with self.assertRaises(RoadError) as caught:
            getattr(self.net, method)(*arguments)
        self.assertIs(caught.exception.__class__, error, (method, repr_of(arguments)))
        self.assertEqual(told_of(self.net), before)


def repr_of(arguments):
    return [value.__class__.__name__ for value in arguments]


class Told(NetCase):
    def test_an_empty_net(self):
        net = Net()
        for told in [net.stops(), net.walks(), net.rules(), net.tickets(), net.trips()]:
            self.assertEqual(told, [])
            self.assertIsInstance(told, list)

    def test_names_as_they_came(self):
        net = Net()
        for name in ["m", "c", "zebra", "abcdefgh"]:
            net.add_stop(name, 1, 0)
            net.add_rule(name, Rule())
        for name in ["m", "c", "zebra"]:
            net.add_ticket(name, 0, 1, [1])
            net.add_trip(name, "c", [("m", 0, 0), ("c", 1, 1)])
        self.assertEqual(net.stops(), ["m", "c", "zebra", "abcdefgh"])
        self.assertEqual(net.rules(), ["m", "c", "zebra", "abcdefgh"])
        self.assertEqual(net.tickets(), ["m", "c", "zebra"])
        self.assertEqual(net.trips(), ["m", "c", "zebra"])

    def test_values(self):
        net = self.net
        self.assertEqual([net.zone(name) for name in net.stops()], [1, 2, 3])
        self.assertEqual([net.change(name) for name in net.stops()], [5, 0, 30])
        self.assertEqual(net.walks(), [("a", "b", 7)])
        self.assertIsInstance(net.walks()[0], tuple)
        self.assertEqual(net.rule("week").words(), ["week", "1111100"])
        self.assertIsInstance(net.rule("week"), Week)
        self.assertEqual(net.ticket("wide"), (500, 120, [1, 2, 3]))
        self.assertIsInstance(net.ticket("wide"), tuple)
        self.assertIsInstance(net.ticket("wide")[2], list)
        self.assertEqual(net.rule_name("night"), "week")
        self.assertEqual(net.calls("night"), [("c", 1430, 1435), ("a", 1450, 1455)])
        self.assertIsInstance(net.calls("night")[0], tuple)

    def test_walks_as_they_came(self):
        self.net.add_walk("c", "a", 1)
        self.net.add_walk("c", "b", 60)
        self.assertEqual(self.net.walks(), [("a", "b", 7), ("c", "a", 1), ("c", "b", 60)])

    def test_nothing_is_told_of_what_is_put(self):
        net = Net()
        self.assertIsNone(net.add_stop("a", 1, 0))
        net.add_stop("b", 1, 0)
        self.assertIsNone(net.add_walk("a", "b", 1))
        self.assertIsNone(net.add_rule("r", Rule()))
        self.assertIsNone(net.add_ticket("t", 0, 1, [1]))
        self.assertIsNone(net.add_trip("t", "r", GOOD_CALLS))

    def test_each_sort_is_named_by_itself(self):
        net = Net()
        net.add_stop("same", 1, 0)
        net.add_stop("b", 1, 0)
        net.add_rule("same", Rule())
        net.add_ticket("same", 0, 1, [1])
        net.add_trip("same", "same", [("same", 0, 0), ("b", 1, 1)])
        self.assertEqual(net.stops() + net.rules() + net.tickets() + net.trips(), ["same", "b", "same", "same", "same"])


class Bounds(NetCase):
    def test_names(self):
        for name in ["q", "z", "abcdefgh", "stuvwxyz", "stop"]:
            net = small_net()
            net.add_stop(name, 1, 1)
            net.add_rule(name, Rule())
            net.add_ticket(name, 1, 1, [1])
            net.add_trip(name, name, [(name, 1, 2), ("a", 3, 4)])
            self.assertEqual([net.stops()[-1], net.rules()[-1], net.tickets()[-1], net.trips()[-1]], [name] * 4)

    def test_numbers(self):
        net = Net()
        for name, zone, change in [("a", 1, 0), ("b", 6, 30), ("c", 2, 1), ("d", 5, 29)]:
            net.add_stop(name, zone, change)
            self.assertEqual((net.zone(name), net.change(name)), (zone, change))
        net.add_walk("a", "b", 1)
        net.add_walk("a", "c", 60)
        for name, price, lasts, zones in [
            ("a", 0, 1, [1]), ("b", 10000, 1440, [6]), ("c", 1, 1439, [1, 2, 3, 4, 5, 6]),
        ]:
            net.add_ticket(name, price, lasts, zones)
            self.assertEqual(net.ticket(name), (price, lasts, zones))

    def test_minutes_of_calls(self):
        net = self.net
        net.add_trip("edge", "all", [("a", 0, 0), ("b", 1, 2878), ("a", 2879, 2879)])
        self.assertEqual(net.calls("edge"), [("a", 0, 0), ("b", 1, 2878), ("a", 2879, 2879)])
        net.add_trip("long", "all", [("a", 0, 2878), ("b", 2879, 2879)])
        for wrong in [-1, 2880, 2881, 14400]:
            self.refused(BadNumber, "add_trip", "new", "all", [("a", wrong, 20), ("b", 30, 40)])
            self.refused(BadNumber, "add_trip", "new", "all", [("a", 10, wrong), ("b", 30, 40)])
            self.refused(BadNumber, "add_trip", "new", "all", [("a", 10, 20), ("b", wrong, 40)])
            self.refused(BadNumber, "add_trip", "new", "all", [("a", 10, 20), ("b", 30, wrong)])

    def test_counts_of_calls(self):
        calls = [("ab"[at % 2], at, at) for at in range(8)]
        for count in range(2, 7):
            name = "t" + "x" * count
            self.net.add_trip(name, "all", calls[:count])
            self.assertEqual(self.net.calls(name), calls[:count])
        for count in [0, 1, 7, 8]:
            self.refused(BadCalls, "add_trip", "new", "all", calls[:count])

    def test_calls_that_just_follow(self):
        self.net.add_trip("near", "all", [("a", 10, 10), ("b", 11, 11), ("a", 12, 12), ("b", 13, 20)])
        self.assertEqual(len(self.net.calls("near")), 4)

    def test_as_many_as_there_may_be(self):
        self.net = full_net()
        counts = [len(told) for told in [
            self.net.stops(), self.net.walks(), self.net.rules(), self.net.tickets(), self.net.trips()]]
        self.assertEqual(counts, [8, 12, 6, 3, 10])
        self.refused(TooMany, "add_stop", "i", 1, 0)
        self.refused(TooMany, "add_walk", "a", "h", 5)
        self.refused(TooMany, "add_rule", "rg", Rule())
        self.refused(TooMany, "add_ticket", "more", 0, 1, [1])
        self.refused(TooMany, "add_trip", "tk", "ra", GOOD_CALLS)


class Refused(NetCase):
    def test_names(self):
        for name in NO_NAMES:
            self.refused(BadName, "add_stop", name, 1, 0)
            self.refused(BadName, "add_rule", name, Rule())
            self.refused(BadName, "add_ticket", name, 0, 1, [1])
            self.refused(BadName, "add_trip", name, "all", GOOD_CALLS)

    def test_twice(self):
        self.refused(Twice, "add_stop", "a", 1, 5)
        self.refused(Twice, "add_rule", "all", Rule())
        self.refused(Twice, "add_ticket", "wide", 500, 120, [1, 2, 3])
        self.refused(Twice, "add_trip", "slow", "all", GOOD_CALLS)

    def test_stops(self):
        for wrong in [0, -1, 7, 8] + HUGE + NO_NUMBERS:
            self.refused(BadNumber, "add_stop", "new", wrong, 0)
        for wrong in [-1, 31, 32] + HUGE + NO_NUMBERS:
            self.refused(BadNumber, "add_stop", "new", 1, wrong)

    def test_walks(self):
        for wrong in NO_TEXTS + UNKNOWN:
            self.refused(NoStop, "add_walk", wrong, "a", 5)
            self.refused(NoStop, "add_walk", "a", wrong, 5)
            self.refused(NoStop, "add_walk", wrong, wrong, 5)
        for one, other in [("a", "b"), ("b", "a"), ("a", "a"), ("c", "c")]:
            self.refused(Twice, "add_walk", one, other, 5)
        for wrong in [0, -1, 61, 62] + HUGE + NO_NUMBERS:
            self.refused(BadNumber, "add_walk", "b", "c", wrong)

    def test_rules(self):
        for wrong in NO_RULES:
            self.refused(BadRule, "add_rule", "new", wrong)

    def test_tickets(self):
        for wrong in [-1, 10001, 10002] + HUGE + NO_NUMBERS:
            self.refused(BadNumber, "add_ticket", "new", wrong, 1, [1])
        for wrong in [0, -1, 1441, 1442] + HUGE + NO_NUMBERS:
            self.refused(BadNumber, "add_ticket", "new", 0, wrong, [1])
        for wrong in [
            [], [0], [7], [0, 1], [6, 7], [1, 1], [2, 1], [1, 3, 2], [1, 2, 3, 4, 5, 6, 7], [0, 1, 2, 3, 4, 5, 6],
            [1, None], [1, True], [True], [True, 2], [1.0], ["1"], [1, "2"], [[1]], (1,), (1, 2), "1", "12", 1, 12,
        ] + LISTS + NO_LISTS:
            self.refused(BadNumber, "add_ticket", "new", 0, 1, wrong)

    def test_rules_of_trips(self):
        for wrong in NO_TEXTS + UNKNOWN + ["slow", "a", "wide"]:
            self.refused(NoRule, "add_trip", "new", wrong, GOOD_CALLS)

    def test_forms_of_calls(self):
        call = ("b", 30, 40)
        for wrong in [
            [("a", 10, 20)], [("a", 10, 20), ["b", 30, 40]], [["a", 10, 20], call], [("a", 10), call],
            [("a", 10, 20), ("b", 30)], [("a", 10, 20, 5), call], [("a", 10, 20), ("b", 30, 40, None)], [(), call],
            [None, call], [call, None], ["abc", call], [call, "abc"], [{}, call], [{"a": 1, "b": 2, "c": 3}, call],
            (("a", 10, 20), call), "ab", {"a": 10, "b": 20}, [1, 2],
        ] + [[call, wrong] for wrong in LISTS + NO_LISTS] + LISTS + NO_LISTS:
            self.refused(BadCalls, "add_trip", "new", "all", wrong)

    def test_stops_of_calls(self):
        for wrong in NO_TEXTS + UNKNOWN:
            self.refused(NoStop, "add_trip", "new", "all", [(wrong, 10, 20), ("b", 30, 40)])
            self.refused(NoStop, "add_trip", "new", "all", [("a", 10, 20), (wrong, 30, 40)])
            self.refused(NoStop, "add_trip", "new", "all", [(wrong, 10, 20), (wrong, 30, 40)])

    def test_numbers_of_calls(self):
        for wrong in HUGE + NO_NUMBERS:
            self.refused(BadNumber, "add_trip", "new", "all", [("a", wrong, 20), ("b", 30, 40)])
            self.refused(BadNumber, "add_trip", "new", "all", [("a", 10, wrong), ("b", 30, 40)])
            self.refused(BadNumber, "add_trip", "new", "all", [("a", 10, 20), ("b", 30, wrong)])

    def test_calls_that_do_not_rise(self):
        for calls in [
            [("a", 20, 19), ("b", 30, 40)], [("a", 10, 20), ("b", 30, 29)], [("a", 10, 20), ("b", 20, 40)],
            [("a", 10, 20), ("b", 19, 40)], [("a", 10, 20), ("a", 30, 40)],
            [("a", 10, 20), ("b", 30, 40), ("b", 50, 60)], [("a", 10, 20), ("b", 30, 40), ("a", 40, 60)],
            [("a", 30, 40), ("b", 10, 20)],
        ]:
            self.refused(BadCalls, "add_trip", "new", "all", calls)

    def test_what_is_asked_of_nothing(self):
        for wrong in NO_TEXTS + UNKNOWN + ["all", "wide", "slow"]:
            self.refused(NoStop, "zone", wrong)
            self.refused(NoStop, "change", wrong)
        for wrong in NO_TEXTS + UNKNOWN + ["a", "wide", "slow"]:
            self.refused(NoRule, "rule", wrong)
        for wrong in NO_TEXTS + UNKNOWN + ["a", "all", "slow"]:
            self.refused(NoTicket, "ticket", wrong)
        for wrong in NO_TEXTS + UNKNOWN + ["a", "all", "wide"]:
            self.refused(NoTrip, "rule_name", wrong)
            self.refused(NoTrip, "calls", wrong)


class TwoThingsWrong(NetCase):
    def setUp(self):
        self.net = full_net()

    def test_stops(self):
        self.refused(BadName, "add_stop", "A", 0, -1)
        self.refused(BadName, "add_stop", None, None, None)
        self.refused(Twice, "add_stop", "a", 0, 31)
        self.refused(Twice, "add_stop", "a", 1, 0)
        self.refused(BadNumber, "add_stop", "new", 0, 0)
        self.refused(BadNumber, "add_stop", "new", 1, 31)

    def test_walks(self):
        self.refused(NoStop, "add_walk", "zz", "zz", 0)
        self.refused(NoStop, "add_walk", "a", "zz", 0)
        self.refused(NoStop, "add_walk", "zz", "a", 5)
        self.refused(Twice, "add_walk", "b", "a", 0)
        self.refused(Twice, "add_walk", "a", "a", None)
        self.refused(Twice, "add_walk", "h", "h", 5)
        self.refused(BadNumber, "add_walk", "a", "h", 61)

    def test_rules(self):
        self.refused(BadName, "add_rule", "A", None)
        self.refused(Twice, "add_rule", "ra", None)
        self.refused(Twice, "add_rule", "ra", Rule())
        self.refused(BadRule, "add_rule", "new", None)

    def test_tickets(self):
        self.refused(BadName, "add_ticket", "", -1, 0, [])
        self.refused(Twice, "add_ticket", "day", -1, 0, [])
        self.refused(Twice, "add_ticket", "day", 0, 1, [1])
        self.refused(BadNumber, "add_ticket", "new", -1, 1, [1])
        self.refused(BadNumber, "add_ticket", "new", 0, 0, [1])
        self.refused(BadNumber, "add_ticket", "new", 0, 1, [])

    def test_trips(self):
        self.refused(BadName, "add_trip", "A", "zz", None)
        self.refused(Twice, "add_trip", "ta", "zz", None)
        self.refused(Twice, "add_trip", "ta", "ra", GOOD_CALLS)
        self.refused(NoRule, "add_trip", "new", "zz", None)
        self.refused(NoRule, "add_trip", "new", "zz", [("zz", 10, 20), ("b", 30, 40)])
        self.refused(BadCalls, "add_trip", "new", "ra", [("zz", -1, 20)])
        self.refused(BadCalls, "add_trip", "new", "ra", [("zz", -1, 20), ("b", 30)])
        self.refused(BadCalls, "add_trip", "new", "ra", [("zz", 10, 20), ["b", 30, 40]])

    def test_calls_one_by_one(self):
        self.refused(NoStop, "add_trip", "new", "ra", [("zz", -1, -2), ("b", 30, 40)])
        self.refused(NoStop, "add_trip", "new", "ra", [("a", 10, 20), ("zz", -1, 40)])
        self.refused(BadNumber, "add_trip", "new", "ra", [("a", 5, -1), ("b", 30, 40)])
        self.refused(BadNumber, "add_trip", "new", "ra", [("a", 2880, 20), ("b", 30, 40)])
        self.refused(BadNumber, "add_trip", "new", "ra", [("a", 10, 20), ("a", -1, 40)])
        self.refused(BadNumber, "add_trip", "new", "ra", [("a", 10, 20), ("b", -1, 40), ("zz", 50, 60)])
        self.refused(BadCalls, "add_trip", "new", "ra", [("a", 20, 10), ("zz", 30, 40)])
        self.refused(BadCalls, "add_trip", "new", "ra", [("a", 20, 10), ("b", -1, 40)])
        self.refused(BadCalls, "add_trip", "new", "ra", [("a", 10, 20), ("a", 30, 40), ("zz", 50, 60)])
        self.refused(BadCalls, "add_trip", "new", "ra", [("a", 10, 20), ("b", 20, 40), ("c", 2880, 60)])
        self.refused(NoStop, "add_trip", "new", "ra", [("a", 10, 20), ("zz", 20, 19), ("b", 50, 60)])

    def test_too_many_comes_last(self):
        self.refused(NoStop, "add_trip", "new", "ra", [("a", 10, 20), ("zz", 30, 40)])
        self.refused(BadNumber, "add_trip", "new", "ra", [("a", 10, 20), ("b", 30, 2880)])
        self.refused(BadCalls, "add_trip", "new", "ra", [("a", 10, 20), ("b", 20, 40)])
        self.refused(TooMany, "add_trip", "new", "ra", GOOD_CALLS)


class Kept(NetCase):
    def test_what_is_handed_in_may_be_changed_behind(self):
        zones = [4, 5]
        calls = [("a", 10, 20), ("b", 30, 40)]
        self.net.add_ticket("new", 1, 2, zones)
        self.net.add_trip("new", "all", calls)
        self.assertEqual((zones, calls), ([4, 5], [("a", 10, 20), ("b", 30, 40)]))
        before = told_of(self.net)
        zones.append(6)
        zones[0] = 1
        calls.append(("c", 50, 60))
        calls[0] = ("c", 0, 0)
        self.assertEqual(told_of(self.net), before)

    def test_rules_handed_in_may_be_changed_behind(self):
        rule = Span(0, 9, Each(2, [0]))
        inner = Week(3)
        self.net.add_rule("span", rule)
        self.net.add_rule("inner", But([4], inner))
        before = told_of(self.net)
        rule.__init__(5, 6, Rule())
        inner.__init__(0)
        self.assertEqual(told_of(self.net), before)

    def test_what_is_told_may_be_changed_behind(self):
        before = told_of(self.net)
        for told in [self.net.stops(), self.net.walks(), self.net.rules(), self.net.tickets(), self.net.trips(),
                     self.net.calls("slow"), self.net.ticket("wide")[2]]:
            told.append("more")
            told[0] = "less"
        told = self.net.rule("week")
        told.__init__(0)
        self.assertEqual(told_of(self.net), before)

    def test_what_is_told_stays_as_it_was(self):
        stops, walks, trips, rules, tickets = (
            self.net.stops(), self.net.walks(), self.net.trips(), self.net.rules(), self.net.tickets())
        self.net.add_stop("d", 4, 4)
        self.net.add_walk("a", "d", 4)
        self.net.add_rule("more", Rule())
        self.net.add_ticket("more", 1, 1, [1])
        self.net.add_trip("more", "more", [("a", 1, 1), ("d", 2, 2)])
        self.assertEqual(stops, ["a", "b", "c"])
        self.assertEqual(walks, [("a", "b", 7)])
        self.assertEqual(trips, ["slow", "night"])
        self.assertEqual(rules, ["all", "week"])
        self.assertEqual(tickets, ["short", "wide"])

    def test_wrong_lists_are_not_changed(self):
        zones = [2, 1]
        calls = [("a", 10, 20), ("zz", 30, 40)]
        self.refused(BadNumber, "add_ticket", "new", 1, 2, zones)
        self.refused(NoStop, "add_trip", "new", "all", calls)
        self.assertEqual((zones, calls), ([2, 1], [("a", 10, 20), ("zz", 30, 40)]))

    def test_nets_share_nothing(self):
        one = Net()
        Net().add_stop("a", 1, 0)
        self.assertEqual(one.stops(), [])

    def test_what_was_refused_may_be_put_well(self):
        self.refused(BadNumber, "add_stop", "d", 7, 0)
        self.net.add_stop("d", 6, 0)
        self.refused(BadNumber, "add_walk", "c", "d", 0)
        self.net.add_walk("d", "c", 1)
        self.refused(BadRule, "add_rule", "new", None)
        self.net.add_rule("new", Rule())
        self.refused(BadCalls, "add_trip", "new", "new", [])
        self.net.add_trip("new", "new", GOOD_CALLS)
        self.assertEqual(self.net.stops()[-1] + self.net.trips()[-1], "dnew")


class Copied(NetCase):
    def add_to(self, net):
        net.add_stop("new", 1, 0)
        net.add_walk("a", "new", 1)
        net.add_rule("new", Rule())
        net.add_ticket("new", 1, 1, [1])
        net.add_trip("new", "new", GOOD_CALLS)

    def test_it_tells_the_same(self):
        for net in [Net(), self.net, full_net()]:
            self.assertEqual(told_of(net.copied()), told_of(net))

    def test_each_may_be_changed_by_itself(self):
        before = told_of(self.net)
        twin = self.net.copied()
        self.add_to(twin)
        self.assertEqual(told_of(self.net), before)
        twin = self.net.copied()
        self.add_to(self.net)
        self.assertEqual(told_of(twin), before)


if __name__ == "__main__":
    unittest.main()
