import copy
import random
import unittest

from roadbook.desk import Desk
from roadbook.errors import (
    BadCalls, BadClock, BadName, BadNumber, NoPlan, NoRun, NoStop, NoTraveller, NoTrip, RoadError, TooLate, TooMany,
    Twice)
from roadbook.fronts import front, front_from
from roadbook.notices import Notices
from roadbook.plans import gone
from roadbook.reader import net_of
from roadbook.travel import beginnings_at, legs_to, where_at

from journeys import drawn_net, tell_any
from kinds import HUGE, NO_NAMES, NO_NUMBERS, NO_TEXTS, UNKNOWN
from nets import crowded_net, told_of

DAY = 1440

LINES = """
stop a 1 5
stop b 1 4
stop c 1 0
stop d 1 7
stop e 1 0
stop f 1 0
walk a b 10
walk b f 45
walk c d 6
days all always
days odd each 2 1
ticket city 200 120 1
trip k all a 08:00 08:05 b 08:20 08:25 c 08:40 08:50 d 09:00 09:02
trip l all c 09:10 09:10 a 09:30 09:30
trip m all b 08:30 08:30 d 08:50 08:50
trip n all b 08:35 08:35 f 08:45 08:45
trip odd odd a 10:00 10:00 c 10:30 10:30
"""

K = ("ride", "k", 0, 0, 2, "city")
L = ("ride", "l", 0, 0, 1, None)


class DeskCase(unittest.TestCase):
    def setUp(self):
        self.net = net_of(LINES)
        self.desk = Desk(self.net)

    def all_told(self):
        """All that a desk tells."""
        names = self.desk.names()
        rows = [(name, self.desk.plan(name), self.desk.where(name)) for name in names]
        return (self.desk.now(), rows, [
            [worth for worth, plan in front_from(self.desk.net, [("a", 480)], "d", 3, self.desk.notices)],
            self.desk.notices.told()])

    def refused(self, error, method, *arguments):
        before = self.all_told()
        with self.assertRaises(RoadError) as caught:
            getattr(self.desk, method)(*arguments)
        self.assertIs(caught.exception.__class__, error, (method, arguments))
        self.assertEqual(self.all_told(), before)
        return caught.exception


class Clock(DeskCase):
    def test_now(self):
        self.assertEqual(self.desk.now(), 0)
        for moment in [0, 1, 1, 500, 14399999, 14399999]:
            self.assertIsNone(self.desk.wait(moment))
            self.assertEqual(self.desk.now(), moment)

    def test_no_moment(self):
        self.desk.wait(100)
        for wrong in [-1, 14400000] + HUGE + NO_NUMBERS:
            self.refused(BadClock, "wait", wrong)

    def test_ahead_of_now(self):
        self.desk.wait(100)
        for moment in [0, 1, 99]:
            self.refused(TooLate, "wait", moment)
        self.assertIsNone(self.desk.wait(100))


class Entering(DeskCase):
    def test_names_and_plans(self):
        self.assertEqual(self.desk.names(), [])
        self.assertIsNone(self.desk.enter("zoe", ("a", 480, [K, L])))
        self.assertIsNone(self.desk.enter("ann", ("a", 0, [])))
        self.assertEqual(self.desk.names(), ["zoe", "ann"])
        self.assertEqual(self.desk.plan("zoe"), ("a", 480, [K, L]))
        self.assertEqual(self.desk.plan("ann"), ("a", 0, []))

    def test_bad_names(self):
        for wrong in NO_NAMES:
            self.refused(BadName, "enter", wrong, ("a", 480, [K]))
            self.refused(BadName, "enter", wrong, None)

    def test_twice(self):
        self.desk.enter("zoe", ("a", 480, [K]))
        self.refused(Twice, "enter", "zoe", ("a", 480, [K]))
        self.refused(Twice, "enter", "zoe", None)

    def test_the_eighth_and_the_ninth(self):
        for name in "abcdefgh":
            self.desk.enter(name, ("a", 480, [K]))
        self.assertEqual(self.desk.names(), list("abcdefgh"))
        self.refused(TooMany, "enter", "i", ("a", 480, [K]))
        self.refused(TooMany, "enter", "i", None)
        self.refused(Twice, "enter", "a", ("a", 480, [K]))
        self.refused(BadName, "enter", "I", ("a", 480, [K]))

    def test_no_plans(self):
        for wrong in NO_NUMBERS + HUGE + [("zz", 480, []), ("a", -1, []), ("a", 14000001, []), ("a", 480, ()),
                                          ("a", 480, [None])]:
            self.assertIsNone(self.refused(NoPlan, "enter", "zoe", wrong).at)
        self.assertEqual(self.refused(NoPlan, "enter", "zoe", ("a", 486, [K])).at, 0)
        self.assertEqual(self.refused(NoPlan, "enter", "zoe", ("a", 480, [K, ("walk", "c")])).at, 1)
        self.desk.wait(500)
        self.assertEqual(self.refused(NoPlan, "enter", "zoe", ("a", 486, [K])).at, 0)

    def test_plans_by_the_notices_of_the_desk(self):
        self.desk.late("k", 0, 0, 10)
        self.desk.enter("zoe", ("a", 495, [K]))
        self.desk.out("k", 0)
        self.assertEqual(self.refused(NoPlan, "enter", "ann", ("a", 480, [K])).at, 0)

    def test_begins_ahead_of_now(self):
        self.desk.wait(400)
        self.refused(TooLate, "enter", "zoe", ("a", 399, [K]))
        self.desk.enter("zoe", ("a", 400, [K]))
        self.desk.enter("ann", ("a", 401, [K]))
        self.refused(TooLate, "enter", "bob", ("a", 0, []))

    def test_the_plan_may_be_changed_behind(self):
        legs = [K, L]
        self.desk.enter("zoe", ("a", 480, legs))
        legs.clear()
        self.assertEqual(self.desk.plan("zoe"), ("a", 480, [K, L]))
        self.desk.plan("zoe")[2].clear()
        self.desk.names().clear()
        self.assertEqual(self.desk.plan("zoe"), ("a", 480, [K, L]))
        self.assertEqual(self.desk.names(), ["zoe"])

    def test_no_traveller(self):
        self.desk.enter("zoe", ("a", 480, [K, L]))
        for wrong in NO_TEXTS + UNKNOWN + ["zo", "zoee", "a"]:
            self.refused(NoTraveller, "plan", wrong)
            self.refused(NoTraveller, "where", wrong)
            self.refused(NoTraveller, "again", wrong)
            self.refused(NoTraveller, "again", wrong, "zz", 4)
            self.refused(NoTraveller, "take", wrong, 0)
            self.refused(NoTraveller, "take", wrong, -1, "zz", 4)

    def test_the_net_as_it_was(self):
        self.net.add_stop("far", 1, 0)
        self.net.add_walk("a", "far", 1)
        self.net.add_walk("a", "e", 1)
        self.net.add_ticket("free", 0, 60, [1])
        self.net.add_trip("fast", "all", [("a", 481, 481), ("far", 482, 482)])
        self.assertIsNone(self.refused(NoPlan, "enter", "zoe", ("far", 480, [])).at)
        self.assertEqual(self.refused(NoPlan, "enter", "zoe", ("a", 480, [("walk", "far")])).at, 0)
        self.assertEqual(self.refused(NoPlan, "enter", "zoe", ("a", 480, [("walk", "e")])).at, 0)
        self.assertEqual(self.refused(NoPlan, "enter", "zoe", ("a", 480, [("ride", "k", 0, 0, 1, "free")])).at, 0)
        self.refused(NoTrip, "out", "fast", 0)
        self.desk.enter("zoe", ("a", 480, [K]))
        self.refused(NoStop, "again", "zoe", "far")

    def test_nothing_is_done_to_the_net(self):
        before = told_of(self.net)
        self.desk.enter("zoe", ("a", 480, [K, L]))
        self.desk.late("k", 0, 0, 3)
        self.desk.again("zoe")
        self.assertEqual(told_of(self.net), before)


class Where(DeskCase):
    def test_as_time_goes(self):
        self.desk.enter("zoe", ("a", 480, [("wait", 482), K, ("walk", "d"), ("wait", 530)]))
        for moment, wanted in [
                (0, ("at", "a")), (479, ("at", "a")), (484, ("at", "a")), (485, ("on", "k", 0, 0)),
                (504, ("on", "k", 0, 0)), (505, ("on", "k", 0, 1)), (519, ("on", "k", 0, 1)),
                (520, ("walking", "c", "d")), (525, ("walking", "c", "d")), (526, ("at", "d")), (529, ("at", "d")),
                (530, ("there",)), (531, ("there",))]:
            self.desk.wait(moment)
            self.assertEqual(self.desk.where("zoe"), wanted)

    def test_behind_notices(self):
        self.desk.enter("zoe", ("a", 480, [K, L]))
        self.desk.wait(500)
        self.desk.late("k", 0, 2, 31)
        self.desk.wait(520)
        self.assertEqual(self.desk.where("zoe"), ("on", "k", 0, 1))
        self.desk.wait(551)
        self.assertEqual(self.desk.where("zoe"), ("at", "c"))
        self.desk.wait(600)
        self.assertEqual(self.desk.where("zoe"), ("at", "c"))


class Telling(DeskCase):
    def test_broken_and_mended(self):
        self.assertEqual(self.desk.late("k", 0, 0, 0), ([], []))
        self.desk.enter("zoe", ("a", 480, [K, L]))
        self.desk.enter("ann", ("a", 480, [K]))
        self.desk.enter("bob", ("a", 480, []))
        told = self.desk.late("k", 0, 2, 30)
        self.assertEqual(told, ([], []))
        self.assertIsInstance(told, tuple)
        self.assertIsInstance(told[0], list)
        self.assertIsInstance(told[1], list)
        self.assertEqual(self.desk.late("k", 0, 2, 31), (["zoe"], []))
        self.assertEqual(self.desk.late("k", 0, 2, 32), ([], []))
        self.assertEqual(self.desk.late("l", 0, 0, 2), ([], ["zoe"]))
        self.assertEqual(self.desk.out("k", 0), (["zoe", "ann"], []))
        self.assertEqual(self.desk.back("k", 0), ([], ["zoe", "ann"]))
        self.assertEqual(self.desk.out("l", 0), (["zoe"], []))
        self.assertEqual(self.desk.out("k", 0), (["ann"], []))
        self.assertEqual(self.desk.back("k", 0), ([], ["ann"]))
        self.assertEqual(self.desk.back("l", 0), ([], ["zoe"]))

    def test_one_notice_that_breaks_and_mends(self):
        late = ("ride", "l", 0, 0, 1, "city")
        self.desk.late("l", 0, 0, 10)
        self.desk.enter("bob", ("c", 555, [late]))
        self.desk.enter("zoe", ("c", 550, [late]))
        self.assertEqual(self.desk.late("l", 0, 0, 0), (["bob"], []))
        self.desk.enter("eve", ("a", 480, [K, L]))
        # The ticket that is held ends just as the late run leaves.
        self.assertEqual(self.desk.late("l", 0, 0, 55), (["eve"], ["bob"]))
        self.assertEqual(self.desk.late("l", 0, 0, 54), ([], ["eve"]))
        self.assertEqual(self.desk.back("l", 0), (["bob"], []))

    def test_as_they_were_entered(self):
        for name in ["zoe", "ann", "mia"]:
            self.desk.enter(name, ("a", 480, [K]))
        self.assertEqual(self.desk.out("k", 0), (["zoe", "ann", "mia"], []))
        self.assertEqual(self.desk.back("k", 0), ([], ["zoe", "ann", "mia"]))

    def test_told_lists_may_be_changed(self):
        self.desk.enter("zoe", ("a", 480, [K]))
        told = self.desk.out("k", 0)
        told[0].clear()
        told[1].append("zoe")
        self.assertEqual(self.desk.names(), ["zoe"])
        self.assertEqual(self.desk.back("k", 0), ([], ["zoe"]))

    def test_refusals_as_those_of_notices(self):
        self.desk.enter("zoe", ("a", 480, [K, L]))
        self.desk.wait(DAY)
        for wrong in NO_TEXTS + UNKNOWN + ["a", "city", "all"]:
            self.refused(NoTrip, "late", wrong, -1, -1, -1)
            self.refused(NoTrip, "out", wrong, 0)
            self.refused(NoTrip, "back", wrong, 0)
        for wrong in [-1, 10000] + HUGE + NO_NUMBERS:
            self.refused(BadClock, "late", "k", wrong, -1, -1)
            self.refused(BadClock, "out", "odd", wrong)
            self.refused(BadClock, "back", "k", wrong)
        for day in [0, 2]:
            self.refused(NoRun, "late", "odd", day, -1, -1)
            self.refused(NoRun, "out", "odd", day)
            self.refused(NoRun, "back", "odd", day)
        for day in [0, 1]:
            for wrong in [-1, 4] + HUGE + NO_NUMBERS:
                self.refused(BadNumber, "late", "k", day, wrong, -1)
            for wrong in [-1, 301] + HUGE + NO_NUMBERS:
                self.refused(BadNumber, "late", "k", day, 0, wrong)
        self.desk.late("k", 1, 0, 100)
        self.refused(BadCalls, "late", "k", 1, 1, 0)

    def test_out_is_no_run(self):
        self.desk.out("k", 0)
        self.desk.wait(DAY)
        self.refused(NoRun, "out", "k", 0)
        self.refused(NoRun, "late", "k", 0, 0, 0)
        self.refused(TooLate, "back", "k", 0)

    def test_bad_calls_go_ahead_of_too_late(self):
        self.desk.late("k", 0, 0, 100)
        self.desk.wait(DAY)
        self.refused(BadCalls, "late", "k", 0, 1, 0)
        self.refused(TooLate, "late", "k", 0, 1, 100 + 1)


class TooLateNotices(DeskCase):
    def at(self, moment):
        self.desk = Desk(self.net)
        self.desk.wait(moment)

    def test_the_first_arriving_counts(self):
        for moment, wanted in [(479, True), (480, True), (481, False), (484, False)]:
            for method, arguments in [("late", ("k", 0, 0, 1)), ("out", ("k", 0))]:
                self.at(moment)
                if wanted:
                    self.assertEqual(getattr(self.desk, method)(*arguments), ([], []))
                else:
                    self.refused(TooLate, method, *arguments)

    def test_from_a_later_call_on(self):
        for moment, wanted in [(481, True), (499, True), (500, True), (501, False), (505, False)]:
            self.at(moment)
            if wanted:
                self.desk.late("k", 0, 1, 1)
            else:
                self.refused(TooLate, "late", "k", 0, 1, 1)

    def test_the_last_call(self):
        for moment, wanted in [(539, True), (540, True), (541, False), (542, False), (543, False)]:
            self.at(moment)
            if wanted:
                self.desk.late("k", 0, 3, 1)
            else:
                self.refused(TooLate, "late", "k", 0, 3, 1)

    def test_as_it_was_and_as_it_would_be(self):
        self.desk.late("k", 0, 3, 20)
        for moment, wanted in [(540, True), (541, False)]:
            self.desk.wait(moment)
            if wanted:
                self.desk.late("k", 0, 3, 0)
                self.desk.late("k", 0, 3, 20)
            else:
                # As it was it lies behind now, as it would be ahead of it.
                self.refused(TooLate, "late", "k", 0, 3, 0)
                self.refused(TooLate, "back", "k", 0)
        self.desk.late("k", 0, 3, 1)
        self.desk.wait(542)
        self.refused(TooLate, "late", "k", 0, 3, 20)

    def test_what_changes_nothing_is_never_too_late(self):
        self.desk.late("k", 0, 1, 5)
        self.desk.wait(DAY)
        self.assertEqual(self.desk.late("k", 0, 1, 5), ([], []))
        self.assertEqual(self.desk.late("k", 0, 2, 5), ([], []))
        self.assertEqual(self.desk.late("l", 0, 0, 0), ([], []))
        self.assertEqual(self.desk.back("l", 0), ([], []))
        self.refused(TooLate, "late", "k", 0, 1, 6)
        self.refused(TooLate, "back", "k", 0)
        self.refused(TooLate, "out", "l", 0)

    def test_what_stands_does_not_count(self):
        self.desk.wait(505)
        self.assertEqual(self.desk.late("k", 0, 2, 10), ([], []))
        self.assertEqual(self.desk.back("k", 0), ([], []))
        self.refused(TooLate, "out", "k", 0)

    def test_brought_back_from_being_out(self):
        for moment, wanted in [(479, True), (480, True), (481, False)]:
            self.desk = Desk(self.net)
            self.desk.late("k", 0, 0, 10)
            self.desk.out("k", 0)
            self.desk.wait(moment)
            if wanted:
                self.desk.back("k", 0)
            else:
                self.refused(TooLate, "back", "k", 0)

    def test_taken_out_as_it_was(self):
        self.desk.late("k", 0, 0, 10)
        self.desk.wait(490)
        self.assertEqual(self.desk.out("k", 0), ([], []))
        self.desk = Desk(self.net)
        self.desk.late("k", 0, 0, 10)
        self.desk.wait(491)
        self.refused(TooLate, "out", "k", 0)


class Again(DeskCase):
    def setUp(self):
        DeskCase.setUp(self)
        self.desk.enter("zoe", ("a", 480, [K, L]))

    def same(self, name, beginnings, other, most=3):
        wanted = front_from(self.net, beginnings, other, most, self.desk.notices)
        self.assertEqual(self.desk.again(name, other, most), wanted)
        return wanted

    def test_ahead_of_the_begin(self):
        self.desk.wait(400)
        self.assertEqual(self.desk.again("zoe", "d"), front(self.net, "a", "d", 400))
        self.same("zoe", [("a", 400)], "d")

    def test_to_the_last_stop(self):
        self.assertEqual(self.desk.again("zoe"), [((0, 0, 0), ("a", 0, []))])
        self.desk.enter("ann", ("a", 480, [K]))
        self.assertEqual(self.desk.again("ann"), front(self.net, "a", "c", 0))
        self.desk.enter("bob", ("a", 480, [K, ("walk", "d"), ("wait", 600)]))
        self.assertEqual(self.desk.again("bob"), front(self.net, "a", "d", 0))
        self.desk.enter("cyd", ("b", 480, [("wait", 600)]))
        self.assertEqual(self.desk.again("cyd"), front(self.net, "b", "b", 0))
        self.desk.enter("dan", ("b", 480, []))
        self.assertEqual(self.desk.again("dan", None), front(self.net, "b", "b", 0))

    def test_to_the_last_stop_of_a_broken_plan(self):
        self.desk.enter("ann", ("a", 480, [K]))
        self.desk.out("k", 0)
        self.desk.wait(481)
        self.assertEqual(self.desk.again("ann"), front(self.net, "a", "c", 481, 3, self.desk.notices))
        self.desk.wait(515)
        self.assertEqual(self.desk.again("zoe"), [((515, 0, 0), ("a", 515, []))])

    def test_from_a_stop(self):
        self.desk.wait(484)
        self.same("zoe", [("a", 484)], "d")
        self.desk.wait(525)
        self.same("zoe", [("c", 525)], "b")

    def test_from_a_run(self):
        self.desk.wait(490)
        self.same("zoe", [("b", 504), ("c", 520)], "d")
        found = self.same("zoe", [("b", 504), ("c", 520)], "f")
        self.assertEqual([plan[:2] for worth, plan in found], [("b", 504)] * 2)
        self.desk.wait(505)
        self.same("zoe", [("c", 520)], "d")

    def test_from_a_walk(self):
        self.desk.enter("ann", ("a", 480, [("walk", "b")]))
        self.desk.wait(485)
        self.same("ann", [("b", 490)], "d")

    def test_behind_the_last_leg(self):
        self.desk.wait(570)
        self.same("zoe", [("a", 575)], "c")
        self.desk.wait(600)
        self.same("zoe", [("a", 600)], "c")

    def test_the_most(self):
        self.desk.wait(482)
        for most in range(4):
            self.same("zoe", [("a", 482)], "d", most)

    def test_by_the_notices(self):
        self.desk.wait(482)
        self.desk.late("k", 0, 1, 40)
        self.same("zoe", [("a", 482)], "d")

    def test_refusals(self):
        for wrong in [each for each in NO_TEXTS if each is not None] + UNKNOWN + ["k", "zoe"]:
            self.refused(NoStop, "again", "zoe", wrong)
            self.refused(NoStop, "again", "zoe", wrong, 4)
            self.refused(NoStop, "take", "zoe", 0, wrong)
            self.refused(NoStop, "take", "zoe", -1, wrong, 4)
        for wrong in [-1, 4] + HUGE + NO_NUMBERS:
            self.refused(BadNumber, "again", "zoe", "d", wrong)
            self.refused(BadNumber, "again", "zoe", None, wrong)
            self.refused(BadNumber, "take", "zoe", 0, "d", wrong)
            self.refused(BadNumber, "take", "zoe", -1, "d", wrong)

    def test_nothing_is_changed_by_asking(self):
        self.desk.wait(490)
        before = self.all_told()
        found = self.desk.again("zoe", "d")
        kept = copy.deepcopy(found)
        for worth, plan in found:
            plan[2].clear()
        found.clear()
        self.assertEqual(self.desk.again("zoe", "d"), kept)
        self.assertEqual(self.all_told(), before)

    def test_too_many(self):
        self.net = crowded_net(3)
        self.desk = Desk(self.net)
        self.desk.enter("zoe", ("a", 0, []))
        for method, arguments in [("again", ("zoe", "f")), ("take", ("zoe", 0, "f")), ("take", ("zoe", 99, "f"))]:
            with self.assertRaises(RoadError) as caught:
                getattr(self.desk, method)(*arguments)
            self.assertIs(caught.exception.__class__, TooMany)
        self.assertEqual(self.desk.plan("zoe"), ("a", 0, []))


class Take(DeskCase):
    def setUp(self):
        DeskCase.setUp(self)
        self.desk.enter("zoe", ("a", 480, [K, L]))

    def test_no_such_number(self):
        self.desk.wait(490)
        count = len(self.desk.again("zoe", "d"))
        self.assertGreater(count, 0)
        for wrong in [-1, count, count + 1] + HUGE + NO_NUMBERS:
            self.assertIsNone(self.refused(NoPlan, "take", "zoe", wrong, "d").at)
        self.assertIsNone(self.refused(NoPlan, "take", "zoe", 0, "e").at)

    def test_ahead_of_the_begin(self):
        self.desk.wait(400)
        told = self.desk.again("zoe", "d")[0][1]
        self.assertIsNone(self.desk.take("zoe", 0, "d"))
        self.assertEqual(self.desk.plan("zoe"), told)
        self.assertEqual(self.desk.plan("zoe")[:2], ("a", 400))

    def test_at_the_begin(self):
        self.desk.wait(480)
        self.desk.take("zoe", 0, "b")
        self.assertEqual(self.desk.plan("zoe"), ("a", 480, [("wait", 480), ("walk", "b")]))

    def test_from_a_stop(self):
        self.desk.wait(482)
        self.desk.take("zoe", 0, "b")
        self.assertEqual(self.desk.plan("zoe"), ("a", 480, [("wait", 482), ("walk", "b")]))
        self.assertEqual(self.desk.where("zoe"), ("walking", "a", "b"))

    def test_from_a_run(self):
        self.desk.wait(490)
        self.assertEqual(self.desk.again("zoe", "d"), [
            ((526, 0, 0), ("c", 520, [("walk", "d")]))])
        self.desk.take("zoe", 0, "d")
        self.assertEqual(self.desk.plan("zoe"), ("a", 480, [K, ("wait", 520), ("walk", "d")]))
        self.desk.take("zoe", 0, "b")
        self.assertEqual(self.desk.plan("zoe"), ("a", 480, [("ride", "k", 0, 0, 1, "city"), ("wait", 504)]))
        self.assertEqual(self.desk.where("zoe"), ("on", "k", 0, 0))
        self.desk.wait(504)
        self.assertEqual(self.desk.where("zoe"), ("there",))

    def test_from_a_walk(self):
        self.desk.enter("ann", ("a", 480, [("walk", "b")]))
        self.desk.wait(485)
        self.desk.take("ann", 0, "a")
        self.assertEqual(self.desk.plan("ann"), ("a", 480, [("walk", "b"), ("wait", 490), ("walk", "a")]))
        self.assertEqual(self.desk.where("ann"), ("walking", "a", "b"))

    def test_from_a_wait_that_is_not_over(self):
        self.desk.enter("ann", ("a", 480, [("wait", 500), ("walk", "b")]))
        self.desk.wait(490)
        self.desk.take("ann", 0)
        self.assertEqual(self.desk.plan("ann"), ("a", 480, [("wait", 490), ("walk", "b")]))

    def test_from_a_broken_plan(self):
        self.desk.wait(500)
        self.desk.out("l", 0)
        self.desk.wait(521)
        self.assertEqual(self.desk.where("zoe"), ("at", "c"))
        self.desk.take("zoe", 0, "d")
        self.assertEqual(self.desk.plan("zoe"), ("a", 480, [K, ("wait", 521), ("walk", "d")]))
        self.assertEqual(self.desk.back("l", 0), ([], []))

    def test_behind_the_last_leg(self):
        self.desk.wait(570)
        self.desk.take("zoe", 0, "b")
        self.assertEqual(self.desk.plan("zoe"), ("a", 480, [K, L, ("wait", 575), ("walk", "b")]))

    def test_a_second_number(self):
        self.desk.enter("ann", ("b", 480, []))
        self.desk.wait(500)
        found = self.desk.again("ann", "f")
        self.assertEqual([worth for worth, plan in found], [(525, 1, 200), (545, 0, 0)])
        for number, row in enumerate(found):
            self.desk = Desk(self.net)
            self.desk.enter("ann", ("b", 480, []))
            self.desk.wait(500)
            self.desk.take("ann", number, "f")
            self.assertEqual(self.desk.plan("ann"), ("b", 480, [("wait", 500)] + row[1][2]))
            self.assertEqual(gone(self.net, self.desk.plan("ann"), self.desk.notices), row[0])

    def test_no_ticket_is_held(self):
        self.desk.wait(521)
        self.desk.take("zoe", 0, "a")
        plan = self.desk.plan("zoe")
        self.assertEqual(plan, ("a", 480, [K, ("wait", 521), ("ride", "l", 0, 0, 1, "city")]))
        self.assertEqual(gone(self.net, plan), (570, 2, 400))

    def test_the_most(self):
        self.desk.wait(480)
        self.assertIsNone(self.refused(NoPlan, "take", "zoe", 0, "c", 0).at)
        told = self.desk.again("zoe", "c", 1)[0][1]
        self.desk.take("zoe", 0, "c", 1)
        self.assertEqual(self.desk.plan("zoe"), ("a", 480, [("wait", 480)] + told[2]))

    def test_the_others_are_as_they_were(self):
        self.desk.enter("ann", ("a", 480, [K, L]))
        self.desk.wait(490)
        self.desk.take("zoe", 0, "d")
        self.assertEqual(self.desk.plan("ann"), ("a", 480, [K, L]))
        self.assertEqual(self.desk.names(), ["zoe", "ann"])


class HeldAgainstAPlainAccount(unittest.TestCase):
    def test_drawn_days(self):
        counts = {"broken": 0, "mended": 0, "late": 0, "taken": 0}
        for seed in range(70):
            draw = random.Random(seed)
            net = drawn_net(seed, draw.randint(3, 5), draw.randint(4, 8))
            desk, notices, plans = Desk(net), Notices(net), {}
            for name in "pqrs":
                found = front(net, draw.choice(net.stops()), draw.choice(net.stops()), draw.randint(285, 320))
                if found:
                    plans[name] = draw.choice(found)[1]
                    desk.enter(name, plans[name])
            for _ in range(14):
                self.one_step(net, desk, notices, plans, draw, counts)
        self.assertTrue(min(counts.values()) > 5, counts)

    def one_step(self, net, desk, notices, plans, draw, counts):
        if draw.randrange(3) == 0:
            desk.wait(max(desk.now(), 280) + draw.randint(0, 12))
        for name in plans:
            self.assertEqual(desk.where(name), where_at(net, plans[name], desk.now(), notices))
        if plans and draw.randrange(4) == 0:
            self.take_one(net, desk, notices, plans, draw, counts)
        state = draw.getstate()
        before = [name for name in plans if can_be(net, plans[name], notices)]
        tried = notices_like(net, notices)
        taken, nothing = tell_any(tried, net, draw, [0])
        draw.setstate(state)
        if not taken:
            self.assertEqual(tell_any(desk, net, draw, [0]), (False, None))
        elif is_past(net, notices, tried, desk.now()):
            counts["late"] += 1
            with self.assertRaises(TooLate):
                tell_any(desk, net, draw, [0])
        else:
            after = [name for name in plans if can_be(net, plans[name], tried)]
            broken = [name for name in before if name not in after]
            mended = [name for name in after if name not in before]
            self.assertEqual(tell_any(desk, net, draw, [0]), (True, (broken, mended)))
            counts["broken"] += len(broken)
            counts["mended"] += len(mended)
            notices.taken, notices.lateness = tried.taken, tried.lateness

    def take_one(self, net, desk, notices, plans, draw, counts):
        name = draw.choice(list(plans))
        other = draw.choice(net.stops())
        beginnings = beginnings_at(net, plans[name], desk.now(), notices)
        found = front_from(net, beginnings, other, 3, notices)
        self.assertEqual(desk.again(name, other), found)
        if not found:
            return
        place = draw.randrange(len(found))
        worth, told = found[place]
        old = plans[name]
        if desk.now() < old[1]:
            plans[name] = told
        else:
            kept = legs_to(net, old, desk.now(), told[:2], notices)
            plans[name] = (old[0], old[1], kept + told[2])
        desk.take(name, place, other)
        self.assertEqual(desk.plan(name), plans[name])
        self.assertEqual(gone(net, desk.plan(name), notices)[0], worth[0])
        counts["taken"] += 1


def can_be(net, plan, notices):
    try:
        gone(net, plan, notices)
    except NoPlan:
        return False
    return True


def notices_like(net, notices):
    found = Notices(net)
    found.taken, found.lateness = dict(notices.taken), dict(notices.lateness)
    return found


def is_past(net, before, after, now):
    for trip in net.trips():
        old, new = before.moments(trip, 0), after.moments(trip, 0)
        if old == new:
            continue
        old = [moment for call in old for moment in call[1:]] if old is not None else [None] * 12
        new = [moment for call in new for moment in call[1:]] if new is not None else [None] * 12
        for one, other in zip(old, new):
            if one != other and any(each is not None and each < now for each in (one, other)):
                return True
    return False


if __name__ == "__main__":
    unittest.main()
