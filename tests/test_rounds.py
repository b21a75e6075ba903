import random
import unittest

from roadbook.errors import BadClock, BadNumber, NoStop, RoadError
from roadbook.net import Net
from roadbook.notices import Notices
from roadbook.plans import gone
from roadbook.reader import net_of
from roadbook.rounds import earliest, reached, rounds
from roadbook.writer import net_text

from journeys import drawn_net, drawn_notices, plain_rounds, plain_worths
from kinds import HUGE, NO_NUMBERS, NO_TEXTS, UNKNOWN
from nets import crowded_net, told_of

DAY = 1440

LINES = """
stop a 1 5
stop b 1 4
stop c 1 0
stop d 1 7
stop e 1 0
stop far 3 0
walk b c 6
days all always
ticket city 200 60 12
trip k all a 08:00 08:05 b 08:20 08:25 far 09:00 09:00
trip l all b 08:20 08:24 d 08:40 08:40
trip m all c 08:26 08:26 e 08:50 08:50
trip n all d 08:30 08:46 e 08:48 08:48
"""


def changing_net(change, leave):
    """One gets off at b at 08:20; the run from there on leaves at some minute."""
    return net_of(
        f"stop a 1 0\nstop b 1 {change}\nstop c 1 0\ndays all always\nticket t 1 60 1\n"
        f"trip k all a 08:00 08:00 b 08:20 08:20\ntrip l all b 08:00 08:{leave} c 09:00 09:00")


class RoundsCase(unittest.TestCase):
    def setUp(self):
        self.net = net_of(LINES)

    def refused(self, error, asked, *arguments):
        with self.assertRaises(RoadError) as caught:
            asked(self.net, *arguments)
        self.assertIs(caught.exception.__class__, error, asked)


class Rounds(RoundsCase):
    def test_ride_by_ride(self):
        found = rounds(self.net, "a", 480)
        self.assertEqual(found, [
            {"a": 480}, {"a": 480, "b": 500}, {"a": 480, "b": 500, "d": 520, "e": 530},
            {"a": 480, "b": 500, "d": 520, "e": 530}])
        self.assertIsInstance(found, list)
        self.assertTrue(all(isinstance(told, dict) for told in found))

    def test_the_most(self):
        every = rounds(self.net, "a", 480)
        for most in range(4):
            self.assertEqual(rounds(self.net, "a", 480, most), every[:most + 1])
        self.assertEqual(rounds(self.net, "a", 480, 0), [{"a": 480}])

    def test_a_third_ride_that_comes_sooner(self):
        net = net_of(LINES.replace("stop d 1 7", "stop d 1 6"))
        self.assertEqual([told.get("e") for told in rounds(net, "a", 480)], [None, None, 530, 528])

    def test_change_minutes_that_just_are_enough_and_a_minute_short(self):
        for change, leave, wanted in [(5, 25, True), (5, 24, False), (5, 26, True), (0, 20, True), (0, 19, False),
                                      (30, 50, True), (30, 49, False)]:
            found = rounds(changing_net(change, leave), "a", 480)
            self.assertEqual(found[2].get("c"), 540 if wanted else None, (change, leave))

    def test_no_change_minutes_where_the_journey_begins(self):
        for begin, wanted in [(479, 500), (480, 500), (485, 500), (486, None), (500, DAY + 500)]:
            self.assertEqual(rounds(self.net, "a", begin)[1].get("b"), wanted)

    def test_no_change_minutes_behind_a_walk(self):
        self.assertEqual(rounds(self.net, "b", 499)[1].get("e"), 530)
        self.assertEqual(rounds(self.net, "b", 500)[1].get("e"), 530)
        self.assertIsNone(rounds(self.net, "b", 501)[1].get("e"))
        net = net_of(LINES.replace("stop c 1 0", "stop c 1 30"))
        self.assertEqual(rounds(net, "a", 480)[2].get("e"), 530)

    def test_a_walk_is_no_getting_off(self):
        for told in rounds(self.net, "a", 480):
            self.assertNotIn("c", told)

    def test_from_where_one_got_off_no_walk_back_to_the_stop_itself(self):
        net = net_of(
            "stop a 1 0\nstop b 1 30\nstop c 1 0\nwalk b c 1\ndays all always\nticket t 1 60 1\n"
            "trip k all a 08:00 08:00 b 08:20 08:20\ntrip l all b 08:00 08:22 a 09:00 09:00")
        self.assertEqual(rounds(net, "a", 480), [{"a": 480}, {"a": 480, "b": 500}] + [{"a": 480, "b": 500}] * 2)
        self.assertEqual(rounds(net, "c", 501)[1], {"c": 501, "a": 540})

    def test_a_ride_that_no_ticket_has_the_zones_for(self):
        self.assertNotIn("far", rounds(self.net, "a", 480)[3])
        self.net.add_ticket("wide", 900, 1, [1, 3])
        self.assertEqual(rounds(self.net, "a", 480)[1]["far"], 540)

    def test_zones_between(self):
        rows = ("stop a 1 0\nstop b 2 0\nstop c 1 0\ndays all always\n"
                "trip k all a 08:00 08:00 b 08:10 08:10 c 08:20 08:20")
        self.assertEqual(rounds(net_of(rows), "a", 0)[3], {"a": 0})
        self.assertEqual(rounds(net_of(rows + "\nticket t 1 1 1"), "a", 0)[3], {"a": 0})
        self.assertEqual(rounds(net_of(rows + "\nticket t 1 1 1\nticket u 1 1 2"), "a", 0)[3], {"a": 0})
        self.assertEqual(rounds(net_of(rows + "\nticket t 1 1 12"), "a", 0)[1], {"a": 0, "b": 490, "c": 500})

    def test_a_run_boarded_again_with_another_ticket(self):
        net = net_of(
            "stop a 1 0\nstop b 2 5\nstop c 3 0\ndays all always\nticket t 1 60 12\nticket u 1 60 23\n"
            "trip k all a 08:00 08:00 b 08:10 08:15 c 08:20 08:20")
        self.assertEqual(rounds(net, "a", 0), [{"a": 0}, {"a": 0, "b": 490}] + [{"a": 0, "b": 490, "c": 500}] * 2)
        late = Notices(net)
        late.late("k", 0, 1, 30)
        self.assertEqual(rounds(net, "a", 0, 2, late)[2], {"a": 0, "b": 520, "c": 530})
        slow = net_of(net_text(net).replace("stop b 2 5", "stop b 2 6"))
        self.assertEqual(rounds(slow, "a", 0, 3), [{"a": 0}] + [{"a": 0, "b": 490}] * 3)

    def test_1440_minutes_and_one_more(self):
        self.assertEqual(rounds(self.net, "a", 500)[1], {"a": 500, "b": DAY + 500})
        self.assertEqual(rounds(self.net, "a", 499)[1], {"a": 499})
        self.assertEqual(rounds(self.net, "b", 530)[2], {"b": 530, "d": DAY + 520, "e": DAY + 530})
        self.assertEqual(rounds(self.net, "b", 529)[2], {"b": 529, "d": DAY + 520})
        self.assertEqual(rounds(self.net, "b", 520)[1], {"b": 520, "d": DAY + 520})
        self.assertEqual(rounds(self.net, "b", 519)[1], {"b": 519})

    def test_the_first_and_the_last_begin(self):
        self.assertEqual(rounds(self.net, "a", 0)[1], {"a": 0, "b": 500})
        day = 14000000 // DAY
        self.assertEqual(14000000 - day * DAY, 320)
        self.assertEqual(rounds(self.net, "a", 14000000)[1], {"a": 14000000, "b": day * DAY + 500})

    def test_behind_midnight(self):
        net = net_of(
            "stop a 1 0\nstop b 1 0\nstop c 1 0\ndays odd each 2 1\nticket t 1 60 1\n"
            "trip k odd a 23:50 23:55 b 24:10 24:20 c 47:58 47:59")
        self.assertEqual(rounds(net, "b", 2 * DAY + 20)[1], {"b": 2 * DAY + 20, "c": DAY + 2878})
        self.assertEqual(rounds(net, "b", 2 * DAY + 21)[1], {"b": 2 * DAY + 21})
        self.assertEqual(rounds(net, "a", DAY + 10)[1], {"a": DAY + 10, "b": 2 * DAY + 10})
        self.assertEqual(rounds(net, "a", DAY + 9)[1], {"a": DAY + 9})

    def test_the_order_of_the_stops(self):
        net = net_of(
            "stop z 1 0\nstop m 1 0\nstop a 1 0\ndays all always\nticket t 1 60 1\n"
            "trip k all m 08:00 08:00 a 08:10 08:10 z 08:20 08:20")
        self.assertEqual(list(rounds(net, "m", 0)[1]), ["z", "m", "a"])

    def test_a_stop_with_nothing(self):
        self.assertEqual(rounds(self.net, "far", 480), [{"far": 480}] * 4)


class Reached(RoundsCase):
    def test_by_rides_and_by_walks(self):
        self.assertEqual(reached(self.net, "a", 480), ["a", "b", "c", "d", "e"])
        self.assertEqual(reached(self.net, "a", 480, 0), ["a"])
        self.assertEqual(reached(self.net, "a", 480, 1), ["a", "b", "c"])
        self.assertEqual(reached(self.net, "a", 480, 2), ["a", "b", "c", "d", "e"])
        self.assertEqual(reached(self.net, "b", 480, 0), ["b", "c"])
        self.assertEqual(reached(self.net, "far", 480), ["far"])

    def test_a_walk_at_the_end_comes_in_time_too(self):
        self.assertEqual(reached(self.net, "a", 505, 1), ["a", "b"])
        self.assertEqual(reached(self.net, "a", 506, 1), ["a", "b", "c"])

    def test_the_nets_order(self):
        net = net_of("stop z 1 0\nstop a 1 0\nstop m 1 0\nwalk a m 5\nwalk m z 6")
        self.assertEqual(reached(net, "m", 0), ["z", "a", "m"])


class Earliest(RoundsCase):
    def test_plans(self):
        self.assertEqual(earliest(self.net, "a", "b", 480), ("a", 480, [("ride", "k", 0, 0, 1, "city")]))
        self.assertEqual(earliest(self.net, "a", "c", 480), (
            "a", 480, [("ride", "k", 0, 0, 1, "city"), ("walk", "c")]))
        self.assertEqual(earliest(self.net, "a", "e", 480), ("a", 480, [
            ("ride", "k", 0, 0, 1, "city"), ("walk", "c"), ("ride", "m", 0, 0, 1, None)]))

    def test_on_foot_alone(self):
        self.assertEqual(earliest(self.net, "b", "c", 480), ("b", 480, [("walk", "c")]))
        self.assertEqual(earliest(self.net, "b", "c", 480, 0), ("b", 480, [("walk", "c")]))

    def test_from_a_stop_to_itself(self):
        for most in range(4):
            self.assertEqual(earliest(self.net, "a", "a", 480, most), ("a", 480, []))

    def test_none(self):
        self.assertIsNone(earliest(self.net, "a", "far", 480))
        self.assertIsNone(earliest(self.net, "a", "b", 480, 0))
        self.assertIsNone(earliest(self.net, "a", "e", 480, 1))
        self.assertIsNone(earliest(self.net, "a", "b", 499))
        self.assertIsNone(earliest(self.net, "a", "c", 505))
        self.assertEqual(earliest(self.net, "a", "c", 506)[2][1], ("walk", "c"))

    def test_no_sooner_plan_with_more_rides_than_asked(self):
        net = net_of(LINES.replace("stop d 1 7", "stop d 1 6"))
        self.assertEqual(gone(net, earliest(net, "a", "e", 480, 2))[:2], (530, 2))
        self.assertEqual(gone(net, earliest(net, "a", "e", 480, 3))[:2], (528, 3))

    def test_more_labels_than_a_front_may_have(self):
        net = crowded_net(3)
        self.assertEqual(gone(net, earliest(net, "a", "f", 0)), (109, 1, 100))
        self.assertEqual(rounds(net, "a", 0)[3]["g"], 100)
        self.assertEqual(reached(net, "a", 0), ["a", "b", "c", "d", "e", "g", "f"])


class Refusals(RoundsCase):
    def test_stops(self):
        for wrong in NO_TEXTS + UNKNOWN + ["k", "all", "city"]:
            for asked in [rounds, reached]:
                self.refused(NoStop, asked, wrong, 480)
                self.refused(NoStop, asked, wrong, -1)
                self.refused(NoStop, asked, wrong, 480, 4)
                self.refused(NoStop, asked, wrong, "x", "x")
            self.refused(NoStop, earliest, wrong, "a", 480)
            self.refused(NoStop, earliest, "a", wrong, 480)
            self.refused(NoStop, earliest, "a", wrong, -1)
            self.refused(NoStop, earliest, "a", wrong, 480, 4)

    def test_begins(self):
        for wrong in [-1, 14000001, 14399999] + HUGE + NO_NUMBERS:
            for asked in [rounds, reached]:
                self.refused(BadClock, asked, "a", wrong)
                self.refused(BadClock, asked, "a", wrong, 4)
                self.refused(BadClock, asked, "a", wrong, "x")
            self.refused(BadClock, earliest, "a", "b", wrong)
            self.refused(BadClock, earliest, "a", "a", wrong, -1)

    def test_the_most(self):
        for wrong in [-1, 4, 5] + HUGE + NO_NUMBERS:
            for asked in [rounds, reached]:
                self.refused(BadNumber, asked, "a", 480, wrong)
            self.refused(BadNumber, earliest, "a", "b", 480, wrong)
            self.refused(BadNumber, earliest, "a", "a", 480, wrong)


class WithNotices(RoundsCase):
    def setUp(self):
        RoundsCase.setUp(self)
        self.notices = Notices(self.net)

    def test_none_told(self):
        for notices in [None, self.notices]:
            self.assertEqual(rounds(self.net, "a", 480, 3, notices), rounds(self.net, "a", 480))
            self.assertEqual(reached(self.net, "a", 480, 3, notices), reached(self.net, "a", 480))
            self.assertEqual(earliest(self.net, "a", "e", 480, 3, notices), earliest(self.net, "a", "e", 480))

    def test_late(self):
        self.notices.late("k", 0, 1, 1)
        self.assertEqual(rounds(self.net, "a", 480, 3, self.notices)[3], {"a": 480, "b": 501})
        self.assertEqual(reached(self.net, "a", 480, 3, self.notices), ["a", "b", "c"])
        self.assertIsNone(earliest(self.net, "a", "e", 480, 3, self.notices))
        self.notices.late("m", 0, 0, 1)
        self.assertEqual(rounds(self.net, "a", 480, 3, self.notices)[2], {"a": 480, "b": 501, "e": 531})

    def test_out_and_back(self):
        self.notices.out("k", 0)
        self.assertEqual(rounds(self.net, "a", 480, 3, self.notices), [{"a": 480}] * 4)
        self.assertEqual(rounds(self.net, "a", 500, 1, self.notices)[1], {"a": 500, "b": DAY + 500})
        self.assertIsNone(earliest(self.net, "a", "b", 480, 3, self.notices))
        self.notices.back("k", 0)
        self.assertEqual(rounds(self.net, "a", 480, 3, self.notices), rounds(self.net, "a", 480))

    def test_a_run_that_a_delay_brings_within_or_out_of_reach(self):
        self.notices.late("k", 0, 0, 20)
        self.assertEqual(rounds(self.net, "a", 505, 1, self.notices)[1], {"a": 505, "b": 520})
        self.assertEqual(rounds(self.net, "a", 506, 1, self.notices)[1], {"a": 506, "b": DAY + 500})
        self.notices.late("k", 1, 0, 20)
        self.assertEqual(rounds(self.net, "a", 519, 1, self.notices)[1], {"a": 519})
        self.assertEqual(rounds(self.net, "a", 520, 1, self.notices)[1], {"a": 520, "b": DAY + 520})


class OfItsOwn(RoundsCase):
    def test_what_is_told_may_be_changed(self):
        notices = Notices(self.net)
        notices.late("k", 0, 0, 1)
        for told in [None, notices]:
            for asked in [lambda: rounds(self.net, "a", 480, 3, told), lambda: reached(self.net, "a", 480, 3, told),
                          lambda: earliest(self.net, "a", "b", 480, 3, told)]:
                first, kept = asked(), repr(asked())
                if isinstance(first, tuple):
                    first[2].clear()
                elif isinstance(first[0], dict):
                    first[1].clear()
                if isinstance(first, list):
                    first.clear()
                self.assertEqual(repr(asked()), kept)

    def test_no_dict_is_told_twice(self):
        found = rounds(self.net, "far", 480)
        found[0].clear()
        self.assertEqual(found[1:], [{"far": 480}] * 3)

    def test_nothing_that_is_handed_in_is_changed(self):
        notices = Notices(self.net)
        notices.late("k", 0, 0, 1)
        before = (told_of(self.net), notices.told())
        rounds(self.net, "a", 480, 3, notices)
        reached(self.net, "a", 480, 3, notices)
        earliest(self.net, "a", "e", 480, 3, notices)
        self.assertEqual((told_of(self.net), notices.told()), before)

    def test_the_net_may_be_changed_behind(self):
        found = rounds(self.net, "a", 480)
        self.net.add_trip("z", "all", [("a", 480, 480), ("far", 481, 481)])
        self.net.add_ticket("wide", 0, 1, [1, 3])
        self.assertNotIn("far", found[3])
        self.assertEqual(rounds(self.net, "a", 480)[1]["far"], 481)

    def test_an_empty_net(self):
        net = Net()
        net.add_stop("a", 1, 0)
        self.assertEqual(rounds(net, "a", 0), [{"a": 0}] * 4)
        self.assertEqual(reached(net, "a", 0), ["a"])


class HeldAgainstAllJourneys(unittest.TestCase):
    def test_drawn_nets(self):
        for seed in range(60):
            draw = random.Random(seed)
            net = drawn_net(seed, draw.randint(2, 6), draw.randint(1, 10))
            notices = None if seed % 3 == 0 else drawn_notices(net, seed, [0, 1, 2], 5)
            stop, begin = draw.choice(net.stops()), draw.choice([0, 290, 300, 310, 330, 1390, 1740])
            most = seed % 4
            self.assertEqual(rounds(net, stop, begin, most, notices), plain_rounds(net, stop, begin, most, notices))
            led = []
            for other in net.stops():
                worths = plain_worths(net, [(stop, begin)], other, most, notices)
                plan = earliest(net, stop, other, begin, most, notices)
                self.assertEqual(plan is None, worths == [])
                if worths:
                    led.append(other)
                    worth = gone(net, plan, notices)
                    self.assertEqual((worth[0], plan[:2]), (worths[0][0], (stop, begin)))
                    self.assertLessEqual(worth[1], most)
                    self.assertNotIn("wait", [leg[0] for leg in plan[2]])
            self.assertEqual(reached(net, stop, begin, most, notices), led)

    def test_a_net_that_is_alike(self):
        for seed in range(20):
            net = drawn_net(seed)
            other = net_of(net_text(net))
            for stop in net.stops():
                for goal in net.stops():
                    plan = earliest(net, stop, goal, 290)
                    self.assertEqual(earliest(other, stop, goal, 290), plan)
                    self.assertEqual(earliest(net, stop, goal, 290), plan)


if __name__ == "__main__":
    unittest.main()
