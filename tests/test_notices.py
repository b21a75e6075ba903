import random
import unittest

from roadbook.errors import BadCalls, BadClock, BadNumber, NoRun, NoTrip, RoadError
from roadbook.net import Net
from roadbook.notices import Notices
from roadbook.rules import Rule, Span, Week

from kinds import HUGE, NO_NUMBERS, NO_TEXTS, UNKNOWN
from nets import full_net, told_of

DAY = 1440


def net_by(calls, rule):
    net = Net()
    for name in "abcd":
        net.add_stop(name, 1, 0)
    net.add_rule("r", rule)
    net.add_trip("t", "r", calls)
    return net


def line_net():
    """A trip of four calls on weekdays 0 to 4, one of two each day, one that never runs."""
    net = net_by([("a", 480, 485), ("b", 500, 505), ("c", 520, 525), ("d", 540, 545)], Week(31))
    net.add_rule("all", Rule())
    net.add_rule("never", Week(0))
    net.add_trip("night", "all", [("d", 1430, 1435), ("a", 2878, 2879)])
    net.add_trip("ghost", "never", [("d", 0, 0), ("a", 1, 1)])
    return net


def as_told(notices):
    """All that notices tell of line_net's runs on some days."""
    days = list(range(15)) + [9998, 9999]
    return (notices.told(), [notices.moments(trip, day) for trip in ["t", "night", "ghost"] for day in days])


class NoticesCase(unittest.TestCase):
    def setUp(self):
        self.net = line_net()
        self.notices = Notices(self.net)

    def minutes_late(self, day):
        """How late each call of trip t is, by its moments."""
        planned = self.net.calls("t")
        found = []
        for (stop, arrive, leave), (name, came, left) in zip(planned, self.notices.moments("t", day), strict=True):
            self.assertEqual(stop, name)
            self.assertEqual(came - arrive, left - leave)
            found.append(came - arrive - day * DAY)
        return found

    def refused(self, error, method, *arguments):
        before = as_told(self.notices)
        with self.assertRaises(RoadError) as caught:
            getattr(self.notices, method)(*arguments)
        self.assertIs(caught.exception.__class__, error, method)
        self.assertEqual(as_told(self.notices), before)


class Moments(NoticesCase):
    def test_none_told(self):
        self.assertEqual(self.notices.told(), [])
        self.assertEqual(self.notices.moments("t", 0), [
            ("a", 480, 485), ("b", 500, 505), ("c", 520, 525), ("d", 540, 545)])
        self.assertEqual(self.notices.moments("t", 7)[0], ("a", 10560, 10565))
        self.assertIsInstance(self.notices.moments("t", 7), list)
        self.assertIsInstance(self.notices.moments("t", 7)[0], tuple)

    def test_days_on_which_it_does_not_run(self):
        for day in range(15):
            self.assertEqual(self.notices.moments("t", day) is None, day % 7 > 4)
            self.assertIsNone(self.notices.moments("ghost", day))

    def test_behind_midnight_and_behind_the_last_moment(self):
        self.assertEqual(self.notices.moments("night", 3), [("d", 5750, 5755), ("a", 7198, 7199)])
        self.assertEqual(self.notices.moments("night", 0), [("d", 1430, 1435), ("a", 2878, 2879)])
        self.assertEqual(self.notices.moments("night", 9999), [("d", 14399990, 14399995), ("a", 14401438, 14401439)])
        self.notices.late("night", 9999, 0, 300)
        self.assertEqual(self.notices.moments("night", 9999), [("d", 14400290, 14400295), ("a", 14401738, 14401739)])

    def test_refusals(self):
        for wrong in NO_TEXTS + UNKNOWN + ["a", "r", "all"]:
            self.refused(NoTrip, "moments", wrong, 0)
            self.refused(NoTrip, "moments", wrong, -1)
        for wrong in [-1, 10000, 10001] + HUGE + NO_NUMBERS:
            self.refused(BadClock, "moments", "t", wrong)
            self.refused(BadClock, "moments", "ghost", wrong)


class Late(NoticesCase):
    def test_from_the_first_call_on(self):
        self.assertIsNone(self.notices.late("t", 1, 0, 10))
        self.assertEqual(self.minutes_late(1), [10, 10, 10, 10])
        self.assertEqual(self.notices.moments("t", 1)[0], ("a", 1930, 1935))
        self.assertEqual(self.notices.told(), [(1, "t", [10, 10, 10, 10])])
        self.assertEqual(self.minutes_late(0), [0, 0, 0, 0])
        self.assertEqual(self.minutes_late(2), [0, 0, 0, 0])

    def test_from_a_later_call_on(self):
        self.notices.late("t", 1, 2, 10)
        self.assertEqual(self.minutes_late(1), [0, 0, 10, 10])
        self.notices.late("t", 2, 3, 1)
        self.assertEqual(self.minutes_late(2), [0, 0, 0, 1])
        self.assertEqual(self.notices.told(), [(1, "t", [0, 0, 10, 10]), (2, "t", [0, 0, 0, 1])])

    def test_of_the_calls_ahead_what_was_told_stands(self):
        self.notices.late("t", 1, 0, 5)
        self.notices.late("t", 1, 2, 40)
        self.assertEqual(self.minutes_late(1), [5, 5, 40, 40])
        self.notices.late("t", 1, 1, 20)
        self.assertEqual(self.minutes_late(1), [5, 20, 20, 20])
        self.notices.late("t", 1, 3, 6)
        self.assertEqual(self.minutes_late(1), [5, 20, 20, 6])
        self.notices.late("t", 1, 0, 1)
        self.assertEqual(self.minutes_late(1), [1, 1, 1, 1])

    def test_behind_the_timetable_and_not_behind_what_was_told(self):
        self.notices.late("t", 1, 0, 10)
        self.notices.late("t", 1, 0, 10)
        self.assertEqual(self.minutes_late(1), [10, 10, 10, 10])
        self.notices.late("t", 1, 1, 0)
        self.assertEqual(self.minutes_late(1), [10, 0, 0, 0])

    def test_0_and_300_and_beside_them(self):
        self.notices.late("t", 1, 1, 300)
        self.assertEqual(self.minutes_late(1), [0, 300, 300, 300])
        self.notices.late("t", 1, 1, 0)
        self.assertEqual(self.minutes_late(1), [0, 0, 0, 0])
        self.notices.late("t", 1, 0, 299)
        self.notices.late("t", 1, 0, 1)
        for wrong in [-1, 301, 302]:
            self.refused(BadNumber, "late", "t", 1, 0, wrong)

    def test_what_is_on_time_is_not_told(self):
        self.notices.late("t", 1, 0, 0)
        self.assertEqual(self.notices.told(), [])
        self.notices.late("t", 1, 2, 30)
        self.notices.late("t", 1, 2, 0)
        self.assertEqual(self.notices.told(), [])
        self.notices.late("t", 1, 0, 10)
        self.notices.late("t", 1, 1, 0)
        self.assertEqual(self.notices.told(), [(1, "t", [10, 0, 0, 0])])

    def test_moments_that_just_rise(self):
        # The call at b arrives 15 minutes behind the leaving at a.
        self.notices.late("t", 1, 0, 14)
        self.notices.late("t", 1, 1, 0)
        self.assertEqual(self.minutes_late(1), [14, 0, 0, 0])
        self.notices.late("t", 2, 0, 15)
        self.refused(BadCalls, "late", "t", 2, 1, 0)
        self.notices.late("t", 2, 1, 1)
        self.assertEqual(self.minutes_late(2), [15, 1, 1, 1])
        self.notices.late("t", 3, 0, 300)
        self.refused(BadCalls, "late", "t", 3, 3, 285)
        self.refused(BadCalls, "late", "t", 3, 2, 284)
        self.notices.late("t", 3, 3, 286)
        self.assertEqual(self.minutes_late(3), [300, 300, 300, 286])

    def test_refusals(self):
        for wrong in NO_TEXTS + UNKNOWN + ["a", "r", "all"]:
            self.refused(NoTrip, "late", wrong, 0, 0, 0)
        for wrong in [-1, 10000, 10001] + HUGE + NO_NUMBERS:
            self.refused(BadClock, "late", "t", wrong, 0, 0)
        for wrong in [-1, 4, 5] + HUGE + NO_NUMBERS:
            self.refused(BadNumber, "late", "t", 0, wrong, 0)
        self.refused(BadNumber, "late", "night", 0, 2, 0)
        for wrong in [-1, 301] + HUGE + NO_NUMBERS:
            self.refused(BadNumber, "late", "t", 0, 0, wrong)
        for trip, day in [("t", 5), ("t", 6), ("t", 13), ("ghost", 0), ("ghost", 9999)]:
            self.refused(NoRun, "late", trip, day, 0, 0)

    def test_two_things_wrong(self):
        self.refused(NoTrip, "late", "zz", -1, -1, -1)
        self.refused(NoTrip, "late", None, None, None, None)
        self.refused(BadClock, "late", "ghost", 10000, -1, -1)
        self.refused(BadClock, "late", "t", None, 0, 301)
        self.refused(NoRun, "late", "ghost", 0, -1, -1)
        self.refused(NoRun, "late", "t", 5, 4, 301)
        self.notices.late("t", 0, 0, 60)
        self.refused(BadNumber, "late", "t", 0, 4, 0)
        self.refused(BadNumber, "late", "t", 0, 1, -1)
        self.refused(BadCalls, "late", "t", 0, 1, 0)
        self.notices.out("t", 1)
        self.refused(NoRun, "late", "t", 1, None, None)


class OutAndBack(NoticesCase):
    def test_out(self):
        self.assertIsNone(self.notices.out("t", 1))
        self.assertIsNone(self.notices.moments("t", 1))
        self.assertEqual(self.notices.told(), [(1, "t", "out")])
        self.assertIsNotNone(self.notices.moments("t", 0))
        self.assertIsNotNone(self.notices.moments("night", 1))

    def test_what_is_out(self):
        self.notices.out("t", 1)
        self.refused(NoRun, "out", "t", 1)
        self.refused(NoRun, "late", "t", 1, 0, 0)
        self.refused(NoRun, "late", "t", 1, 0, 10)
        self.assertEqual(self.notices.told(), [(1, "t", "out")])

    def test_back_from_being_out(self):
        self.notices.out("t", 1)
        self.assertIsNone(self.notices.back("t", 1))
        self.assertEqual(self.minutes_late(1), [0, 0, 0, 0])
        self.assertEqual(self.notices.told(), [])
        self.notices.late("t", 1, 1, 20)
        self.assertEqual(self.minutes_late(1), [0, 20, 20, 20])
        self.notices.out("t", 1)
        self.assertEqual(self.notices.told(), [(1, "t", "out")])

    def test_back_is_as_the_timetable_has_it(self):
        self.notices.late("t", 1, 0, 30)
        self.notices.out("t", 1)
        self.notices.back("t", 1)
        self.assertEqual(self.minutes_late(1), [0, 0, 0, 0])
        self.notices.late("t", 1, 3, 5)
        self.assertEqual(self.minutes_late(1), [0, 0, 0, 5])

    def test_back_of_what_is_late_or_on_time(self):
        self.notices.late("t", 1, 2, 30)
        self.notices.back("t", 1)
        self.assertEqual(self.minutes_late(1), [0, 0, 0, 0])
        self.notices.back("t", 1)
        self.notices.back("t", 2)
        self.assertEqual(self.notices.told(), [])
        self.assertEqual(self.minutes_late(2), [0, 0, 0, 0])

    def test_one_run_alone(self):
        self.notices.late("t", 1, 0, 30)
        self.notices.late("night", 1, 0, 20)
        self.notices.out("t", 2)
        self.notices.back("t", 1)
        self.assertEqual(self.notices.told(), [(1, "night", [20, 20]), (2, "t", "out")])

    def test_refusals(self):
        for method in ["out", "back"]:
            for wrong in NO_TEXTS + UNKNOWN + ["a", "r", "all"]:
                self.refused(NoTrip, method, wrong, 0)
                self.refused(NoTrip, method, wrong, -1)
            for wrong in [-1, 10000, 10001] + HUGE + NO_NUMBERS:
                self.refused(BadClock, method, "t", wrong)
                self.refused(BadClock, method, "ghost", wrong)
            for trip, day in [("t", 5), ("t", 6), ("t", 13), ("ghost", 0), ("ghost", 9999)]:
                self.refused(NoRun, method, trip, day)

    def test_the_first_and_the_last_day(self):
        for day in [0, 9999]:
            self.notices.out("night", day)
            self.assertIsNone(self.notices.moments("night", day))
        self.assertEqual(self.notices.told(), [(0, "night", "out"), (9999, "night", "out")])


class Told(NoticesCase):
    def test_rising_by_day_and_trip(self):
        net = full_net()
        notices = Notices(net)
        for trip, day in [("tg", 12), ("ta", 700), ("tg", 2), ("ta", 12), ("te", 7), ("ta", 7), ("ta", 70), ("ta", 9)]:
            notices.late(trip, day, 0, 9)
        notices.out("tg", 7)
        notices.out("ta", 8)
        told = notices.told()
        self.assertEqual([row[:2] for row in told], [
            (2, "tg"), (7, "ta"), (7, "te"), (7, "tg"), (8, "ta"), (9, "ta"), (12, "ta"), (12, "tg"), (70, "ta"),
            (700, "ta")])
        self.assertEqual([row[2] == "out" for row in told].count(True), 2)
        self.assertIsInstance(told, list)
        self.assertTrue(all(isinstance(row, tuple) for row in told))

    def test_what_is_told_is_the_askers_own(self):
        self.notices.late("t", 1, 1, 10)
        told = self.notices.told()
        moments = self.notices.moments("t", 1)
        before = as_told(self.notices)
        told[0][2][0] = 99
        told[0][2].append(5)
        told.append("more")
        moments[0] = "less"
        moments.clear()
        self.assertEqual(as_told(self.notices), before)

    def test_what_is_told_stays_as_it_was(self):
        self.notices.late("t", 1, 1, 10)
        told, moments = self.notices.told(), self.notices.moments("t", 1)
        kept = list(moments)
        self.notices.late("t", 1, 0, 20)
        self.notices.out("t", 2)
        self.assertEqual(told, [(1, "t", [0, 10, 10, 10])])
        self.assertEqual(moments, kept)

    def test_the_net_as_it_was(self):
        before = as_told(self.notices)
        kept = told_of(self.net)
        self.notices.late("t", 0, 0, 10)
        self.notices.back("t", 0)
        self.assertEqual(told_of(self.net), kept)
        self.net.add_trip("new", "all", [("a", 0, 0), ("b", 1, 1)])
        self.assertEqual(as_told(self.notices), before)
        self.refused(NoTrip, "moments", "new", 0)
        self.refused(NoTrip, "late", "new", 0, 0, 0)
        self.refused(NoTrip, "out", "new", 0)
        self.assertEqual(Notices(self.net).moments("new", 0), [("a", 0, 0), ("b", 1, 1)])

    def test_notices_share_nothing(self):
        other = Notices(self.net)
        self.notices.out("t", 1)
        self.assertEqual(other.told(), [])
        self.assertEqual(len(other.moments("t", 1)), 4)

    def test_a_net_of_no_trips(self):
        notices = Notices(Net())
        self.assertEqual(notices.told(), [])
        self.assertRaises(NoTrip, notices.out, "t", 0)


class Copied(NoticesCase):
    def test_each_may_be_told_of_by_itself(self):
        self.notices.late("t", 1, 1, 5)
        self.notices.out("t", 2)
        twin = self.notices.copied()
        before = as_told(self.notices)
        self.assertEqual(as_told(twin), before)
        twin.late("t", 0, 0, 1)
        twin.late("t", 1, 0, 7)
        twin.out("t", 3)
        twin.back("t", 2)
        self.assertEqual(as_told(self.notices), before)
        self.assertEqual(twin.told(), [(0, "t", [1] * 4), (1, "t", [7] * 4), (3, "t", "out")])
        twin = self.notices.copied()
        self.notices.back("t", 1)
        self.notices.back("t", 2)
        self.assertEqual(as_told(twin), before)


class AgainstAPlainAccount(unittest.TestCase):
    """Many notices of a run, beside a plain account of what they say."""

    CALLS = [("a", 100, 103), ("b", 110, 110), ("a", 130, 150), ("c", 151, 155), ("b", 200, 210)]

    def rising(self, late):
        moved = [(arrive + minutes, leave + minutes) for (_, arrive, leave), minutes in zip(self.CALLS, late)]
        return all(one[1] < other[0] for one, other in zip(moved, moved[1:]))

    def test_many(self):
        dice = random.Random(17)
        refusals = 0
        for _ in range(60):
            notices = Notices(net_by(self.CALLS, Span(3, 3, Rule())))
            late = [0] * 5
            for _ in range(30):
                call, minutes = dice.randrange(5), dice.choice([0, 1, 5, 10, 20, 50, 300])
                wanted = late[:call] + [minutes] * (5 - call)
                try:
                    notices.late("t", 3, call, minutes)
                except BadCalls:
                    refusals = refusals + 1
                    self.assertFalse(self.rising(wanted))
                else:
                    self.assertTrue(self.rising(wanted))
                    late = wanted
                self.assertEqual(notices.told(), [(3, "t", late)] if any(late) else [])
                self.assertEqual(notices.moments("t", 3), [
                    (stop, 4320 + arrive + more, 4320 + leave + more)
                    for (stop, arrive, leave), more in zip(self.CALLS, late)])
        self.assertGreater(refusals, 100)


if __name__ == "__main__":
    unittest.main()
