import copy
import random
import unittest

from roadbook.errors import BadClock, BadNumber, NoStop, RoadError, TooMany
from roadbook.fronts import front, front_from
from roadbook.notices import Notices
from roadbook.plans import gone
from roadbook.reader import net_of
from roadbook.writer import net_text

from journeys import drawn_net, drawn_notices, plain_worths
from kinds import HUGE, NO_NUMBERS, NO_TEXTS, UNKNOWN
from nets import crowded_net, told_of

DAY = 1440

LINES = """
stop a 1 5
stop b 1 4
stop c 2 0
stop d 3 7
stop e 1 0
walk b c 6
walk c e 50
days all always
ticket city 200 60 12
ticket wide 500 90 123
trip k all a 08:00 08:05 b 08:20 08:25 c 08:30 08:40 d 09:00 09:00
trip l all b 08:20 08:24 e 08:50 08:50
trip slow all a 08:00 08:00 e 09:10 09:10
trip cheap all c 09:00 09:00 d 10:00 10:00
"""


def worths_of(found):
    return [worth for worth, plan in found]


class FrontsCase(unittest.TestCase):
    def setUp(self):
        self.net = net_of(LINES)

    def worths(self, one, other, begin, most=3, notices=None):
        return worths_of(front(self.net, one, other, begin, most, notices))

    def refused(self, error, asked, *arguments):
        with self.assertRaises(RoadError) as caught:
            asked(self.net, *arguments)
        self.assertIs(caught.exception.__class__, error, asked)


class Front(FrontsCase):
    def test_one_way(self):
        found = front(self.net, "a", "b", 480)
        self.assertEqual(found, [((500, 1, 200), ("a", 480, [("ride", "k", 0, 0, 1, "city")]))])
        self.assertIsInstance(found, list)
        self.assertIsInstance(found[0], tuple)
        self.assertIsInstance(found[0][0], tuple)
        self.assertIsInstance(found[0][1], tuple)
        self.assertIsInstance(found[0][1][2], list)
        self.assertIsInstance(found[0][1][2][0], tuple)

    def test_sooner_against_fewer_rides(self):
        self.assertEqual(front(self.net, "a", "e", 480), [
            ((530, 2, 200), ("a", 480, [("ride", "k", 0, 0, 1, "city"), ("ride", "l", 0, 0, 1, None)])),
            ((550, 1, 200), ("a", 480, [("ride", "slow", 0, 0, 1, "city")]))])

    def test_sooner_against_cheaper(self):
        net = net_of(LINES.replace("city 200 60 12", "city 200 60 123"))
        self.assertEqual(worths_of(front(net, "a", "d", 480)), [(540, 1, 200)])
        net = net_of(LINES + "ticket three 90 30 23\ntrip x all a 08:30 08:30 c 08:50 08:50")
        # The wide one all the way, or the cheap one for the last ride.
        self.assertEqual(worths_of(front(net, "a", "d", 480)), [(540, 1, 500), (540, 2, 290)])

    def test_rising(self):
        for seed in range(30):
            net = drawn_net(seed, 5, 5)
            for one in net.stops():
                found = worths_of(front(net, one, net.stops()[0], 290))
                self.assertEqual(found, sorted(set(found)))

    def test_the_most(self):
        self.assertEqual(self.worths("a", "e", 480, 2), [(530, 2, 200), (550, 1, 200)])
        self.assertEqual(self.worths("a", "e", 480, 1), [(550, 1, 200)])
        self.assertEqual(self.worths("a", "e", 480, 0), [])
        self.assertEqual(self.worths("b", "e", 480, 0), [(536, 0, 0)])
        self.assertEqual(self.worths("b", "e", 480), [(530, 1, 200), (536, 0, 0)])

    def test_a_walk_at_the_end_and_at_the_beginning(self):
        self.assertEqual(front(self.net, "b", "d", 520), [((600, 1, 500), (
            "b", 520, [("walk", "c"), ("ride", "cheap", 0, 0, 1, "wide")]))])
        self.assertEqual(front(self.net, "c", "b", 480), [((486, 0, 0), ("c", 480, [("walk", "b")]))])
        net = net_of(LINES.replace("c 08:30 08:40 d", "c 08:50 08:50 d"))
        self.assertEqual(front(net, "a", "c", 480), [
            ((506, 1, 200), ("a", 480, [("ride", "k", 0, 0, 1, "city"), ("walk", "c")]))])

    def test_from_a_stop_to_itself(self):
        for begin in [0, 480, 14000000]:
            for most in range(4):
                self.assertEqual(front(self.net, "a", "a", begin, most), [((begin, 0, 0), ("a", begin, []))])

    def test_none(self):
        self.assertEqual(front(self.net, "d", "a", 480), [])
        self.assertEqual(front(self.net, "a", "b", 499), [])

    def test_1440_minutes_and_one_more(self):
        self.assertEqual(self.worths("a", "b", 500), [(DAY + 500, 1, 200)])
        self.assertEqual(self.worths("a", "b", 499), [])
        self.net = net_of(LINES.replace("c 08:30 08:40 d", "d"))
        self.assertEqual(self.worths("a", "c", 505), [])
        self.assertEqual(self.worths("a", "c", 506), [(DAY + 506, 1, 200)])

    def test_the_first_and_the_last_begin(self):
        self.assertEqual(self.worths("a", "b", 0), [(500, 1, 200)])
        day = 14000000 - 320
        self.assertEqual(self.worths("a", "b", 14000000), [(day + 500, 1, 200)])

    def test_change_minutes(self):
        for change, wanted in [(0, True), (4, True), (5, False), (30, False)]:
            self.net = net_of(LINES.replace("stop b 1 4", f"stop b 1 {change}"))
            self.assertEqual((530, 2, 200) in self.worths("a", "e", 480), wanted)
        for begin, wanted in [(503, True), (504, True), (505, False)]:
            self.net = net_of(LINES.replace("stop b 1 4", "stop b 1 30"))
            self.assertEqual((530, 1, 200) in self.worths("b", "e", begin), wanted)

    def test_a_ticket_that_ends_as_a_run_leaves(self):
        for lasts, wanted in [(20, 200), (19, 400), (18, 400)]:
            self.net = net_of(LINES.replace("city 200 60", f"city 200 {lasts}"))
            self.assertEqual(self.worths("a", "e", 480)[0], (530, 2, wanted))

    def test_no_ticket_for_the_zones(self):
        self.net = net_of(LINES.replace("wide 500 90 123", "wide 500 90 12"))
        self.assertEqual(self.worths("a", "d", 480), [])

    def test_a_run_boarded_again(self):
        self.net = net_of(LINES.replace("wide 500 90 123", "wide 500 90 23").replace("walk b c 6\n", ""))
        self.assertEqual(front(self.net, "a", "d", 480), [((540, 2, 700), ("a", 480, [
            ("ride", "k", 0, 0, 2, "city"), ("ride", "k", 0, 2, 3, "wide")]))])

    def test_dear_and_sooner(self):
        self.net = net_of(LINES + "trip fast all a 08:10 08:10 d 08:12 08:12 b 08:14 08:14")
        self.assertEqual(self.worths("a", "b", 480), [(494, 1, 500), (500, 1, 200)])


class FrontFrom(FrontsCase):
    def test_one_beginning(self):
        for one in self.net.stops():
            for other in self.net.stops():
                self.assertEqual(
                    front_from(self.net, [(one, 480)], other), front(self.net, one, other, 480))

    def test_several(self):
        found = front_from(self.net, [("a", 480), ("b", 504)], "e")
        self.assertEqual(found, [
            ((530, 1, 200), ("b", 504, [("ride", "l", 0, 0, 1, "city")])),
            ((560, 0, 0), ("b", 504, [("walk", "e")]))])

    def test_at_the_stop_itself(self):
        self.assertEqual(front_from(self.net, [("a", 480), ("b", 510)], "b"), [
            ((500, 1, 200), ("a", 480, [("ride", "k", 0, 0, 1, "city")])), ((510, 0, 0), ("b", 510, []))])
        self.assertEqual(front_from(self.net, [("b", 510), ("b", 505), ("b", 505)], "b"), [
            ((505, 0, 0), ("b", 505, []))])

    def test_in_time_of_the_earliest(self):
        self.assertEqual(worths_of(front_from(self.net, [("d", 499), ("a", 500)], "b")), [])
        self.assertEqual(worths_of(front_from(self.net, [("d", 500), ("a", 501)], "b")), [(DAY + 500, 1, 200)])
        for later, wanted in [(DAY, 1), (DAY + 1, 0)]:
            self.assertEqual(len(front_from(self.net, [("d", 480), ("b", 480 + later)], "b")), wanted)

    def test_eight(self):
        beginnings = [("a", 480), ("b", 504), ("c", 505), ("d", 480), ("e", 490), ("a", 481), ("b", 600), ("c", 601)]
        found = front_from(self.net, beginnings, "e")
        self.assertEqual(worths_of(found), plain_worths(self.net, beginnings, "e", 3))
        self.assertEqual(found, [((490, 0, 0), ("e", 490, []))])

    def test_none(self):
        self.assertEqual(front_from(self.net, [], "a"), [])

    def test_beginnings_in_another_order(self):
        for seed in range(15):
            net = drawn_net(seed)
            beginnings = [(stop, 300 + at * 5) for at, stop in enumerate(net.stops())]
            for other in net.stops():
                self.assertEqual(front_from(net, beginnings, other), front_from(net, beginnings[::-1], other))


class Refusals(FrontsCase):
    def test_stops(self):
        for wrong in NO_TEXTS + UNKNOWN + ["k", "city", "all"]:
            self.refused(NoStop, front, wrong, "a", 480)
            self.refused(NoStop, front, "a", wrong, 480)
            self.refused(NoStop, front, "a", wrong, -1)
            self.refused(NoStop, front, wrong, "a", 480, 4)
            self.refused(NoStop, front_from, [("a", 480)], wrong)
            self.refused(NoStop, front_from, [("a", 480)], wrong, 4)

    def test_begins(self):
        for wrong in [-1, 14000001, 14399999] + HUGE + NO_NUMBERS:
            self.refused(BadClock, front, "a", "b", wrong)
            self.refused(BadClock, front, "a", "a", wrong, 4)
            self.refused(BadClock, front, "a", "a", wrong, "x")

    def test_the_most(self):
        for wrong in [-1, 4, 5] + HUGE + NO_NUMBERS:
            self.refused(BadNumber, front, "a", "b", 480, wrong)
            self.refused(BadNumber, front, "a", "a", 480, wrong)
            self.refused(BadNumber, front_from, [("a", 480)], "b", wrong)

    def test_too_many_labels(self):
        self.assertEqual(worths_of(front(crowded_net(2), "a", "f", 0)), [(109, 1, 100)])
        self.net = crowded_net(3)
        self.refused(TooMany, front, "a", "f", 0)
        self.refused(TooMany, front, "a", "b", 0, 1)
        self.refused(TooMany, front_from, [("a", 0)], "f")
        self.refused(TooMany, front_from, [("h", 0), ("a", 0)], "f", 1)
        self.assertEqual(self.worths("a", "f", 0, 0), [])

    def test_the_others_go_ahead_of_too_many(self):
        self.net = crowded_net(3)
        self.refused(NoStop, front, "a", "zz", 0)
        self.refused(BadClock, front, "a", "f", -1)
        self.refused(BadNumber, front, "a", "f", 0, 4)
        self.refused(NoStop, front_from, [("a", 0)], "zz")
        self.refused(BadNumber, front_from, [("a", 0)], "f", 4)


class WithNotices(FrontsCase):
    def setUp(self):
        FrontsCase.setUp(self)
        self.notices = Notices(self.net)

    def test_none_told(self):
        for notices in [None, self.notices]:
            self.assertEqual(front(self.net, "a", "e", 480, 3, notices), front(self.net, "a", "e", 480))
            self.assertEqual(
                front_from(self.net, [("a", 480)], "e", 3, notices), front(self.net, "a", "e", 480))

    def test_late(self):
        self.notices.late("k", 0, 1, 1)
        self.assertEqual(self.worths("a", "e", 480, 3, self.notices), [(550, 1, 200)])
        self.notices.late("slow", 0, 1, 30)
        self.assertEqual(self.worths("a", "e", 480, 3, self.notices), [(557, 1, 200)])
        self.notices.late("l", 0, 0, 1)
        self.assertEqual(self.worths("a", "e", 480, 3, self.notices), [(531, 2, 200), (557, 1, 200)])

    def test_out_and_back(self):
        self.notices.out("slow", 0)
        self.assertEqual(self.worths("a", "e", 480, 3, self.notices), [(530, 2, 200), (556, 1, 200)])
        self.notices.out("k", 0)
        self.assertEqual(self.worths("a", "e", 480, 3, self.notices), [])
        self.notices.back("slow", 0)
        self.notices.back("k", 0)
        self.assertEqual(self.worths("a", "e", 480, 3, self.notices), self.worths("a", "e", 480))

    def test_the_same_by_notices_that_are_alike(self):
        for seed in range(15):
            net = drawn_net(seed)
            runs = [trip for trip in net.trips() if net.rule_name(trip) == "all"]
            one, other = Notices(net), Notices(net_of(net_text(net)))
            for trip in runs:
                one.late(trip, 0, 0, 15)
            for trip in runs[::-1]:
                other.out(trip, 0)
                other.back(trip, 0)
                other.late(trip, 0, 0, 15)
                other.late(trip, 1, 0, 0)
            for stop in net.stops():
                for goal in net.stops():
                    self.assertEqual(front(net, stop, goal, 290, 3, one), front(net, stop, goal, 290, 3, other))


class OfItsOwn(FrontsCase):
    def test_what_is_told_may_be_changed(self):
        for asked in [lambda: front(self.net, "a", "e", 480), lambda: front_from(self.net, [("a", 480)], "e"),
                      lambda: front(self.net, "a", "a", 480)]:
            found, kept = asked(), copy.deepcopy(asked())
            for worth, plan in found:
                plan[2].append(None)
            found.clear()
            self.assertEqual(asked(), kept)

    def test_no_list_is_told_twice(self):
        found = front(self.net, "a", "e", 480)
        found[0][1][2].clear()
        self.assertEqual(found[1][1][2], [("ride", "slow", 0, 0, 1, "city")])

    def test_nothing_that_is_handed_in_is_changed(self):
        notices = Notices(self.net)
        notices.late("k", 0, 0, 1)
        beginnings = [("b", 490), ("a", 480), ("a", 480)]
        before = (told_of(self.net), notices.told(), list(beginnings))
        front(self.net, "a", "e", 480, 3, notices)
        front_from(self.net, beginnings, "e", 3, notices)
        self.assertEqual((told_of(self.net), notices.told(), beginnings), before)

    def test_what_is_handed_in_may_be_changed_behind(self):
        notices, beginnings = Notices(self.net), [("a", 480)]
        found = front_from(self.net, beginnings, "e", 3, notices)
        kept = copy.deepcopy(found)
        beginnings.clear()
        notices.out("k", 0)
        self.net.add_trip("z", "all", [("a", 480, 480), ("e", 481, 481)])
        self.assertEqual(found, kept)


class HeldAgainstAllJourneys(unittest.TestCase):
    def test_drawn_nets(self):
        counts = []
        for seed in range(60):
            draw = random.Random(seed)
            net = drawn_net(seed, draw.randint(2, 6), draw.randint(1, 10))
            notices = None if seed % 3 == 0 else drawn_notices(net, seed, [0, 1, 2], 5)
            first = draw.choice([0, 290, 300, 310, 330, 1390, 1740])
            beginnings = [(draw.choice(net.stops()), first + draw.choice([0, 5, 20, DAY, DAY + 1]))
                          for _ in range(draw.randint(1, 3))]
            most = draw.choice([1, 2, 3])
            for other in net.stops():
                found = front_from(net, beginnings, other, most, notices)
                counts.append(len(found))
                self.assertEqual(worths_of(found), plain_worths(net, beginnings, other, most, notices))
                for worth, plan in found:
                    self.assertEqual(gone(net, plan, notices), worth)
                    self.assertIn(plan[:2], beginnings)
                    self.assertNotIn("wait", [leg[0] for leg in plan[2]])
                    if plan[1] == first:
                        self.assertEqual(
                            worths_of(front_from(net, [plan[:2]], other, most, notices)),
                            worths_of(front(net, plan[0], other, first, most, notices)))
        self.assertGreater(max(counts), 2)

    def test_stops_and_tickets_in_another_order(self):
        for seed in range(20):
            net = drawn_net(seed)
            rows = net_text(net).split("\n")
            turned = [row for sort in ["stop", "walk", "days", "ticket", "trip"]
                      for row in rows[::-1] if row.startswith(sort)]
            other = net_of("\n".join(turned))
            self.assertEqual(other.stops(), net.stops()[::-1])
            for stop in net.stops():
                for goal in net.stops():
                    self.assertEqual(front(other, stop, goal, 290), front(net, stop, goal, 290))

    def test_a_net_that_is_alike(self):
        for seed in range(20):
            net = drawn_net(seed)
            other = net_of(net_text(net))
            for stop in net.stops():
                for goal in net.stops():
                    found = front(net, stop, goal, 290)
                    self.assertEqual(front(other, stop, goal, 290), found)
                    self.assertEqual(front(net, stop, goal, 290), found)


if __name__ == "__main__":
    unittest.main()
