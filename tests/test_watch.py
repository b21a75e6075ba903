import copy
import random
import unittest

from roadbook.errors import BadCalls, BadClock, BadNumber, NoRun, NoStop, NoTrip, RoadError, TooMany
from roadbook.fronts import front
from roadbook.notices import Notices
from roadbook.plans import gone
from roadbook.reader import net_of
from roadbook.watch import Watch

from journeys import drawn_net, plain_worths, tell_any
from kinds import HUGE, NO_NUMBERS, NO_TEXTS, UNKNOWN
from nets import crowded_net

DAY = 1440

LINES = """
stop a 1 0
stop b 1 4
stop c 1 0
days all always
days odd each 2 1
ticket city 200 60 1
trip k all a 08:00 08:05 b 08:20 08:25 c 08:40 08:50
trip l all a 08:30 08:30 c 09:00 09:00
trip odd odd a 10:00 10:00 c 10:30 10:30
"""


class WatchCase(unittest.TestCase):
    def setUp(self):
        self.net = net_of(LINES)

    def watch(self, begin=480, most=3):
        return Watch(self.net, "a", "c", begin, most)

    def refused(self, error, asked, *arguments):
        with self.assertRaises(RoadError) as caught:
            asked(*arguments)
        self.assertIs(caught.exception.__class__, error)


class Making(WatchCase):
    def test_it_plans_at_first(self):
        watch = self.watch()
        self.assertEqual(watch.made(), 1)
        self.assertEqual(watch.front(), front(self.net, "a", "c", 480))
        self.assertEqual(watch.front(), [((520, 1, 200), ("a", 480, [("ride", "k", 0, 0, 2, "city")]))])
        self.assertEqual(watch.made(), 1)

    def test_the_most(self):
        for most in range(4):
            self.assertEqual(self.watch(480, most).front(), front(self.net, "a", "c", 480, most))
        self.assertEqual(self.watch(480, 0).front(), [])

    def test_the_first_and_the_last_begin(self):
        for begin in [0, 14000000]:
            self.assertEqual(self.watch(begin).front(), front(self.net, "a", "c", begin))

    def test_to_the_stop_itself(self):
        self.assertEqual(Watch(self.net, "a", "a", 480).front(), [((480, 0, 0), ("a", 480, []))])

    def test_refusals(self):
        for wrong in NO_TEXTS + UNKNOWN + ["k", "city", "all"]:
            self.refused(NoStop, Watch, self.net, wrong, "a", 480)
            self.refused(NoStop, Watch, self.net, "a", wrong, 480)
            self.refused(NoStop, Watch, self.net, "a", wrong, -1, 4)
        for wrong in [-1, 14000001] + HUGE + NO_NUMBERS:
            self.refused(BadClock, Watch, self.net, "a", "c", wrong)
            self.refused(BadClock, Watch, self.net, "a", "c", wrong, 4)
        for wrong in [-1, 4] + HUGE + NO_NUMBERS:
            self.refused(BadNumber, Watch, self.net, "a", "c", 480, wrong)
        self.refused(BadNumber, Watch, crowded_net(3), "a", "c", 0, 4)

    def test_the_net_as_it_was(self):
        watch = self.watch()
        kept = watch.front()
        self.net.add_trip("fast", "all", [("a", 481, 481), ("c", 482, 482)])
        self.net.add_walk("a", "c", 1)
        self.net.add_ticket("free", 0, 60, [1])
        self.assertEqual(watch.front(), kept)
        self.assertTrue(watch.late("l", 0, 0, 0))
        self.assertEqual(watch.front(), kept)
        self.refused(NoTrip, watch.out, "fast", 0)

    def test_nothing_of_it_is_changed_by_two_watches(self):
        one, other = self.watch(), self.watch()
        one.out("k", 0)
        self.assertEqual((one.made(), other.made()), (2, 1))
        self.assertEqual(other.front(), front(self.net, "a", "c", 480))


class PlanningAgain(WatchCase):
    def test_late_out_and_back(self):
        watch = self.watch()
        self.assertIs(watch.late("k", 0, 0, 10), True)
        self.assertEqual([worth for worth, plan in watch.front()], [(530, 1, 200)])
        self.assertIs(watch.out("k", 0), True)
        self.assertEqual([worth for worth, plan in watch.front()], [(540, 1, 200)])
        self.assertIs(watch.out("l", 0), True)
        self.assertEqual(watch.front(), [])
        self.assertIs(watch.back("l", 0), True)
        self.assertEqual([worth for worth, plan in watch.front()], [(540, 1, 200)])
        self.assertIs(watch.back("k", 0), True)
        self.assertEqual([worth for worth, plan in watch.front()], [(520, 1, 200)])
        self.assertEqual(watch.made(), 6)

    def test_notices_that_change_nothing(self):
        watch = self.watch()
        self.assertIs(watch.late("k", 0, 0, 0), True)
        self.assertIs(watch.back("k", 0), True)
        watch.late("k", 0, 1, 5)
        self.assertIs(watch.late("k", 0, 1, 5), True)
        self.assertEqual(watch.made(), 5)
        self.assertIs(watch.late("k", 3, 0, 0), False)
        self.assertIs(watch.back("k", 3), False)
        self.assertEqual(watch.made(), 5)

    def test_a_leaving_at_the_begin_a_minute_ahead_and_behind(self):
        # The last leaving that counts is that of b at 505.
        for begin, wanted in [(484, True), (485, True), (486, True), (504, True), (505, True), (506, False),
                              (510, False), (530, False)]:
            watch = self.watch(begin)
            self.assertIs(watch.late("k", 0, 0, 0), wanted, begin)
            self.assertIs(watch.back("k", 0), wanted)
            self.assertEqual(watch.made(), 3 if wanted else 1)

    def test_a_leaving_1440_minutes_behind_a_minute_ahead_and_behind(self):
        for begin, wanted in [(486, True), (485, True), (484, False), (480, False)]:
            watch = self.watch(begin)
            self.assertIs(watch.back("k", 1), wanted, begin)
            self.assertIs(watch.out("k", 1), wanted)
            self.assertIs(watch.back("k", 1), wanted)

    def test_within_both_ends_by_the_middle_alone(self):
        net = net_of("stop a 1 0\nstop b 1 0\nstop c 1 0\ndays all always\nticket t 1 60 1\n"
                     "trip k all a 00:00 00:00 b 12:00 12:00 c 47:00 47:00 a 47:30 47:30")
        watch = Watch(net, "a", "b", DAY + 300)
        self.assertIs(watch.back("k", 1), True)
        # A leaving on each side of the time, and none in it.
        watch = Watch(net, "a", "b", DAY + 721)
        self.assertIs(watch.back("k", 1), False)
        self.assertIs(watch.back("k", 0), True)

    def test_what_it_was_ahead_counts_and_what_it_is_behind(self):
        watch = self.watch(506)
        self.assertIs(watch.late("k", 0, 0, 1), True)
        self.assertIs(watch.late("k", 0, 0, 2), True)
        self.assertIs(watch.late("k", 0, 0, 0), True)
        self.assertIs(watch.late("k", 0, 0, 0), False)
        watch = self.watch(486)
        self.assertIs(watch.late("k", 1, 0, 2), True)
        self.assertIs(watch.late("k", 1, 0, 3), False)
        self.assertIs(watch.late("k", 1, 0, 1), True)

    def test_back_from_a_delay(self):
        watch = self.watch(506)
        self.assertIs(watch.late("k", 0, 0, 1), True)
        self.assertIs(watch.back("k", 0), True)
        self.assertIs(watch.back("k", 0), False)
        self.assertEqual(watch.front(), front(self.net, "a", "c", 506))
        self.assertEqual(watch.made(), 3)

    def test_out_ahead_and_back_behind(self):
        watch = self.watch(506)
        self.assertIs(watch.late("k", 0, 0, 1), True)
        self.assertIs(watch.out("k", 0), True)
        # As the timetable has it the run is past.
        self.assertIs(watch.back("k", 0), False)
        self.assertEqual(watch.made(), 3)

    def test_the_last_calls_leaving_does_not_count(self):
        watch = self.watch(530)
        self.assertIs(watch.out("k", 0), False)

    def test_runs_of_the_day_ahead(self):
        net = net_of(LINES + "trip night all a 23:50 23:50 b 24:20 24:20 c 24:40 24:40")
        watch = Watch(net, "b", "c", 20)
        self.assertIs(watch.back("night", 0), True)
        watch = Watch(net, "b", "c", DAY + 20)
        self.assertIs(watch.out("night", 0), True)
        self.assertEqual([worth for worth, plan in watch.front()], [(DAY + 520, 1, 200)])
        watch = Watch(net, "b", "c", DAY + 21)
        self.assertIs(watch.out("night", 0), False)

    def test_what_is_not_asked_for_is_passed_over_but_told(self):
        watch = self.watch()
        self.assertIs(watch.out("k", 5), False)
        self.refused(NoRun, watch.out, "k", 5)
        self.refused(NoRun, watch.late, "k", 5, 0, 1)
        self.assertIs(watch.back("k", 5), False)


class Refusals(WatchCase):
    def setUp(self):
        WatchCase.setUp(self)
        self.kept = self.watch()
        self.kept.late("l", 0, 1, 7)

    def refused_notice(self, error, method, *arguments):
        before = (self.kept.front(), self.kept.made())
        self.refused(error, getattr(self.kept, method), *arguments)
        self.assertEqual((self.kept.front(), self.kept.made()), before)

    def test_trips(self):
        for wrong in NO_TEXTS + UNKNOWN + ["a", "city", "all"]:
            self.refused_notice(NoTrip, "late", wrong, 0, 0, 0)
            self.refused_notice(NoTrip, "late", wrong, -1, -1, -1)
            self.refused_notice(NoTrip, "out", wrong, 0)
            self.refused_notice(NoTrip, "back", wrong, -1)

    def test_days(self):
        for wrong in [-1, 10000] + HUGE + NO_NUMBERS:
            self.refused_notice(BadClock, "late", "k", wrong, 0, 0)
            self.refused_notice(BadClock, "late", "k", wrong, -1, -1)
            self.refused_notice(BadClock, "out", "odd", wrong)
            self.refused_notice(BadClock, "back", "k", wrong)

    def test_runs(self):
        self.refused_notice(NoRun, "late", "odd", 0, 0, 0)
        self.refused_notice(NoRun, "late", "odd", 0, -1, -1)
        self.refused_notice(NoRun, "out", "odd", 0)
        self.refused_notice(NoRun, "back", "odd", 0)
        self.kept.out("k", 0)
        self.refused_notice(NoRun, "late", "k", 0, 0, 0)
        self.refused_notice(NoRun, "out", "k", 0)
        self.assertIs(self.kept.back("k", 0), True)

    def test_numbers(self):
        for wrong in [-1, 3] + HUGE + NO_NUMBERS:
            self.refused_notice(BadNumber, "late", "k", 0, wrong, 0)
        for wrong in [-1, 301] + HUGE + NO_NUMBERS:
            self.refused_notice(BadNumber, "late", "k", 0, 1, wrong)

    def test_calls(self):
        self.kept.late("k", 0, 0, 60)
        self.refused_notice(BadCalls, "late", "k", 0, 1, 0)


class TooManyLabels(unittest.TestCase):
    def test_planning_that_is_refused(self):
        net = crowded_net(3)
        watch = Watch(net, "a", "f", 0)
        self.assertEqual(watch.made(), 1)
        for _ in range(2):
            with self.assertRaises(RoadError) as caught:
                watch.front()
            self.assertIs(caught.exception.__class__, TooMany)
        self.assertIs(watch.out("k", 0), True)
        notices = Notices(net)
        notices.out("k", 0)
        self.assertEqual(watch.front(), front(net, "a", "f", 0, 3, notices))
        self.assertEqual([worth for worth, plan in watch.front()], [(109, 1, 100)])
        self.assertIs(watch.back("k", 0), True)
        self.assertRaises(TooMany, watch.front)
        self.assertEqual(watch.made(), 3)


class OfItsOwn(WatchCase):
    def test_what_is_told_may_be_changed(self):
        watch = self.watch()
        kept = copy.deepcopy(watch.front())
        found = watch.front()
        found[0][1][2].clear()
        found.clear()
        self.assertEqual(watch.front(), kept)

    def test_nothing_done_later_changes_it(self):
        watch = self.watch()
        found = watch.front()
        kept = copy.deepcopy(found)
        watch.out("k", 0)
        self.assertEqual(found, kept)


class HeldAgainstPlanningAnew(unittest.TestCase):
    def test_drawn_rows_of_notices(self):
        counts = [0, 0]
        for seed in range(30):
            draw = random.Random(seed)
            net = drawn_net(seed, draw.randint(2, 5), draw.randint(2, 8))
            one, other = draw.choice(net.stops()), draw.choice(net.stops())
            begin, most = draw.choice([0, 290, 310, 330, 1390, 1740]), draw.choice([1, 2, 3])
            watch, notices = Watch(net, one, other, begin, most), Notices(net)
            for number in range(12):
                state = draw.getstate()
                taken, again = tell_any(watch, net, draw, [0, 0, 1, 1, 2])
                draw.setstate(state)
                self.assertEqual(tell_any(notices, net, draw, [0, 0, 1, 1, 2]), (taken, None))
                counts[bool(again)] += 1
                self.assertEqual(watch.front(), front(net, one, other, begin, most, notices))
                for worth, plan in watch.front():
                    self.assertEqual(gone(net, plan, notices), worth)
                if number % 4 == 3:
                    worths = plain_worths(net, [(one, begin)], other, most, notices)
                    self.assertEqual([worth for worth, plan in watch.front()], worths)
        self.assertTrue(min(counts) > 30)


if __name__ == "__main__":
    unittest.main()
