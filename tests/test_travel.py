import copy
import random
import unittest

from roadbook.errors import NoPlan
from roadbook.fronts import front_from
from roadbook.notices import Notices
from roadbook.plans import gone
from roadbook.reader import net_of
from roadbook.travel import beginnings_at, legs_to, where_at

from journeys import drawn_net, drawn_notices
from nets import told_of

DAY = 1440

LINES = """
stop a 1 5
stop b 1 4
stop c 1 0
stop d 1 7
walk a b 10
walk c d 6
days all always
ticket city 200 120 1
trip k all a 08:00 08:05 b 08:20 08:25 c 08:40 08:50 d 09:00 09:00
trip l all c 09:10 09:10 a 09:30 09:30
"""

K = ("ride", "k", 0, 0, 2, "city")
L = ("ride", "l", 0, 0, 1, None)


class TravelCase(unittest.TestCase):
    def setUp(self):
        self.net = net_of(LINES)
        self.notices = Notices(self.net)

    def places(self, plan, *rows):
        """Where one is at some moments, each told."""
        for moment, wanted in rows:
            self.assertEqual(where_at(self.net, plan, moment, self.notices), wanted, moment)

    def begins(self, plan, *rows):
        for moment, wanted in rows:
            self.assertEqual(beginnings_at(self.net, plan, moment, self.notices), wanted, moment)

    def keeps(self, plan, *rows):
        for moment, beginning, wanted in rows:
            self.assertIn(beginning, beginnings_at(self.net, plan, moment, self.notices))
            self.assertEqual(legs_to(self.net, plan, moment, beginning, self.notices), wanted, moment)


class Where(TravelCase):
    def test_a_plan_of_no_legs(self):
        self.places(("a", 480, []), (0, ("at", "a")), (479, ("at", "a")), (480, ("there",)), (481, ("there",)))
        self.assertIsInstance(where_at(self.net, ("a", 480, []), 480), tuple)

    def test_a_walk(self):
        self.places(
            ("a", 480, [("walk", "b")]), (479, ("at", "a")), (480, ("walking", "a", "b")),
            (481, ("walking", "a", "b")), (489, ("walking", "a", "b")), (490, ("there",)), (491, ("there",)))

    def test_walks_one_behind_the_other(self):
        self.places(
            ("a", 480, [("walk", "b"), ("walk", "a")]), (489, ("walking", "a", "b")), (490, ("walking", "b", "a")),
            (499, ("walking", "b", "a")), (500, ("there",)))

    def test_a_ride(self):
        plan = ("a", 480, [K])
        self.places(
            plan, (479, ("at", "a")), (480, ("at", "a")), (484, ("at", "a")), (485, ("on", "k", 0, 0)),
            (486, ("on", "k", 0, 0)), (519, ("on", "k", 0, 1)), (520, ("there",)), (521, ("there",)))

    def test_while_a_run_stands_at_a_call(self):
        plan = ("a", 480, [K])
        self.places(
            plan, (499, ("on", "k", 0, 0)), (500, ("on", "k", 0, 0)), (504, ("on", "k", 0, 0)),
            (505, ("on", "k", 0, 1)), (506, ("on", "k", 0, 1)))

    def test_where_one_gets_off_while_the_run_stands(self):
        plan = ("a", 480, [K, ("wait", 540)])
        self.places(plan, (519, ("on", "k", 0, 1)), (520, ("at", "c")), (529, ("at", "c")), (530, ("at", "c")))

    def test_a_ride_that_is_boarded_under_way(self):
        plan = ("b", 480, [("ride", "k", 0, 1, 3, "city")])
        self.places(
            plan, (490, ("at", "b")), (500, ("at", "b")), (504, ("at", "b")), (505, ("on", "k", 0, 1)),
            (529, ("on", "k", 0, 1)), (530, ("on", "k", 0, 2)), (539, ("on", "k", 0, 2)), (540, ("there",)))

    def test_between_rides(self):
        self.places(
            ("a", 480, [K, L]), (519, ("on", "k", 0, 1)), (520, ("at", "c")), (549, ("at", "c")),
            (550, ("on", "l", 0, 0)), (569, ("on", "l", 0, 0)), (570, ("there",)))

    def test_waits(self):
        self.places(
            ("a", 480, [("wait", 500)]), (479, ("at", "a")), (480, ("at", "a")), (499, ("at", "a")), (500, ("there",)))
        self.places(
            ("a", 480, [("wait", 500), ("walk", "b")]), (490, ("at", "a")), (499, ("at", "a")),
            (500, ("walking", "a", "b")), (509, ("walking", "a", "b")), (510, ("there",)))
        self.places(
            ("a", 480, [("walk", "b"), ("wait", 500)]), (489, ("walking", "a", "b")), (490, ("at", "b")),
            (499, ("at", "b")), (500, ("there",)))

    def test_a_wait_that_is_past(self):
        self.places(("a", 480, [("walk", "b"), ("wait", 485)]), (489, ("walking", "a", "b")), (490, ("there",)))
        self.places(("a", 480, [("wait", 470), ("walk", "b")]), (479, ("at", "a")), (480, ("walking", "a", "b")))
        self.places(("a", 480, [("wait", 470)]), (479, ("at", "a")), (480, ("there",)))

    def test_ahead_of_the_begin(self):
        for legs in [[("walk", "b")], [K], [("wait", 500)], [("walk", "zz")]]:
            for moment in [0, 100, 479]:
                self.places(("a", 480, legs), (moment, ("at", "a")))

    def test_a_first_leg_that_can_not_be_gone(self):
        for leg in [("walk", "zz"), ("walk", "a"), L, ("ride", "k", 0, 0, 9, "city"), ("ride", "k", 0, 0, 2, None)]:
            plan = ("a", 480, [leg, ("walk", "b")])
            self.places(plan, (479, ("at", "a")), (480, ("at", "a")), (600, ("at", "a")), (DAY, ("at", "a")))

    def test_up_to_the_first_leg_that_can_not_be_gone(self):
        plan = ("a", 480, [K, ("ride", "l", 0, 0, 1, "zz"), ("walk", "b")])
        self.places(
            plan, (479, ("at", "a")), (500, ("on", "k", 0, 0)), (519, ("on", "k", 0, 1)), (520, ("at", "c")),
            (550, ("at", "c")), (DAY, ("at", "c")))
        plan = ("a", 480, [("walk", "b"), ("walk", "zz")])
        self.places(plan, (489, ("walking", "a", "b")), (490, ("at", "b")), (DAY, ("at", "b")))

    def test_by_notices(self):
        plan = ("a", 480, [K, L])
        self.notices.late("k", 0, 1, 20)
        self.places(
            plan, (485, ("on", "k", 0, 0)), (519, ("on", "k", 0, 0)), (524, ("on", "k", 0, 0)),
            (525, ("on", "k", 0, 1)), (539, ("on", "k", 0, 1)), (540, ("at", "c")), (550, ("on", "l", 0, 0)))
        self.notices.late("k", 0, 0, 31)
        self.places(plan, (515, ("at", "a")), (516, ("on", "k", 0, 0)), (550, ("on", "k", 0, 1)), (551, ("at", "c")),
                    (600, ("at", "c")))
        self.notices.out("k", 0)
        self.places(plan, (485, ("at", "a")), (570, ("at", "a")))
        self.notices.back("k", 0)
        self.notices.out("l", 0)
        self.places(plan, (519, ("on", "k", 0, 1)), (520, ("at", "c")), (570, ("at", "c")))
        self.assertEqual(where_at(self.net, plan, 570), ("there",))
        self.assertEqual(where_at(self.net, plan, 570, None), ("there",))

    def test_behind_midnight(self):
        net = net_of("stop a 1 0\nstop b 1 0\ndays all always\nticket t 1 60 1\n"
                     "trip n all a 23:50 23:50 b 24:10 24:10")
        plan = ("a", DAY, [("ride", "n", 1, 0, 1, "t")])
        self.assertEqual(where_at(net, plan, 2 * DAY - 10), ("on", "n", 1, 0))
        self.assertEqual(where_at(net, plan, 2 * DAY + 9), ("on", "n", 1, 0))
        self.assertEqual(where_at(net, plan, 2 * DAY + 10), ("there",))


class Beginnings(TravelCase):
    def test_ahead_of_the_begin_at_now(self):
        for legs in [[], [("walk", "b")], [K], [("wait", 500)], [("walk", "zz")]]:
            self.begins(("a", 480, legs), (0, [("a", 0)]), (479, [("a", 479)]))

    def test_a_stop_at_now(self):
        self.begins(("a", 480, []), (480, [("a", 480)]), (481, [("a", 481)]))
        self.begins(("a", 480, [K]), (480, [("a", 480)]), (484, [("a", 484)]))

    def test_behind_a_ride_the_change_minutes(self):
        plan = ("a", 480, [("ride", "k", 0, 0, 1, "city"), ("wait", 600)])
        self.begins(
            plan, (500, [("b", 504)]), (503, [("b", 504)]), (504, [("b", 504)]), (505, [("b", 505)]),
            (600, [("b", 600)]), (601, [("b", 601)]))
        plan = ("a", 480, [("ride", "k", 0, 0, 3, "city")])
        self.begins(plan, (540, [("d", 547)]), (546, [("d", 547)]), (547, [("d", 547)]), (548, [("d", 548)]))

    def test_a_wait_does_not_count_while_it_is_not_over(self):
        self.begins(("a", 480, [("wait", 500)]), (480, [("a", 480)]), (499, [("a", 499)]), (500, [("a", 500)]))
        plan = ("a", 480, [("ride", "k", 0, 0, 1, "city"), ("wait", 502), ("wait", 510), ("walk", "a")])
        self.begins(plan, (500, [("b", 504)]), (502, [("b", 504)]), (509, [("b", 509)]))

    def test_behind_a_walk_none(self):
        plan = ("a", 480, [("walk", "b"), ("wait", 600)])
        self.begins(plan, (490, [("b", 490)]), (491, [("b", 491)]))
        plan = ("a", 480, [K, ("walk", "d"), ("wait", 600)])
        self.begins(plan, (526, [("d", 526)]), (527, [("d", 527)]))

    def test_a_walk_from_its_other_stop_at_its_end(self):
        plan = ("a", 480, [("walk", "b"), ("walk", "a")])
        self.begins(plan, (480, [("b", 490)]), (489, [("b", 490)]), (490, [("a", 500)]), (499, [("a", 500)]),
                    (500, [("a", 500)]), (501, [("a", 501)]))

    def test_a_run_from_each_call_that_is_left(self):
        plan = ("a", 480, [("ride", "k", 0, 0, 3, "city")])
        every = [("b", 504), ("c", 520), ("d", 547)]
        self.begins(plan, (485, every), (499, every), (500, every), (504, every), (505, every[1:]), (519, every[1:]),
                    (520, every[1:]), (529, every[1:]), (530, every[2:]), (539, every[2:]))

    def test_up_to_the_call_where_one_gets_off(self):
        self.begins(("a", 480, [K]), (485, [("b", 504), ("c", 520)]), (505, [("c", 520)]), (519, [("c", 520)]))
        plan = ("b", 480, [("ride", "k", 0, 1, 2, "city")])
        self.begins(plan, (504, [("b", 504)]), (505, [("c", 520)]))

    def test_a_call_at_which_it_stands_while_the_change_minutes_are_past(self):
        # At c it stands from 520 to 530, and nobody wants minutes to change there.
        plan = ("a", 480, [("ride", "k", 0, 0, 3, "city")])
        self.begins(plan, (525, [("c", 520), ("d", 547)]))

    def test_a_stop_at_which_a_run_calls_twice(self):
        net = net_of("stop a 1 3\nstop b 1 0\ndays all always\nticket t 1 60 1\n"
                     "trip n all a 08:00 08:00 b 08:10 08:10 a 08:20 08:20 b 08:30 08:30")
        plan = ("a", 480, [("ride", "n", 0, 0, 3, "t")])
        self.assertEqual(beginnings_at(net, plan, 480), [("b", 490), ("a", 503), ("b", 510)])
        self.assertEqual(legs_to(net, plan, 480, ("b", 510)), [("ride", "n", 0, 0, 3, "t"), ("wait", 510)])
        self.assertEqual(legs_to(net, plan, 480, ("b", 490)), [("ride", "n", 0, 0, 1, "t"), ("wait", 490)])

    def test_of_a_broken_plan(self):
        plan = ("a", 480, [("ride", "k", 0, 0, 1, "city"), L])
        self.begins(plan, (479, [("a", 479)]), (484, [("a", 484)]), (485, [("b", 504)]), (500, [("b", 504)]),
                    (505, [("b", 505)]), (DAY, [("b", DAY)]))
        plan = ("a", 480, [L])
        self.begins(plan, (480, [("a", 480)]), (600, [("a", 600)]))
        plan = ("a", 480, [("ride", "k", 0, 0, 1, "city"), ("wait", 510), L])
        self.begins(plan, (500, [("b", 504)]), (509, [("b", 509)]), (520, [("b", 520)]))

    def test_by_notices(self):
        plan = ("a", 480, [K, L])
        self.notices.late("k", 0, 1, 10)
        self.begins(plan, (500, [("b", 514), ("c", 530)]))
        self.notices.out("k", 0)
        self.begins(plan, (500, [("a", 500)]))
        self.assertEqual(beginnings_at(self.net, plan, 500), [("b", 504), ("c", 520)])
        self.assertEqual(beginnings_at(self.net, plan, 500, None), [("b", 504), ("c", 520)])


class LegsTo(TravelCase):
    def test_none_ahead_of_the_begin(self):
        for legs in [[], [("walk", "b")], [K, L], [("wait", 500)]]:
            self.keeps(("a", 480, legs), (0, ("a", 0), []), (479, ("a", 479), []))

    def test_at_the_begin_and_behind(self):
        self.keeps(("a", 480, []), (480, ("a", 480), [("wait", 480)]), (500, ("a", 500), [("wait", 500)]))
        self.keeps(("a", 480, [K]), (480, ("a", 480), [("wait", 480)]), (484, ("a", 484), [("wait", 484)]))

    def test_legs_that_were_gone(self):
        plan = ("a", 480, [K, L])
        self.keeps(plan, (520, ("c", 520), [K, ("wait", 520)]), (549, ("c", 549), [K, ("wait", 549)]),
                   (570, ("a", 575), [K, L, ("wait", 575)]), (580, ("a", 580), [K, L, ("wait", 580)]))

    def test_a_walk_under_way(self):
        plan = ("a", 480, [("walk", "b"), ("walk", "a")])
        self.keeps(plan, (480, ("b", 490), [("walk", "b"), ("wait", 490)]),
                   (489, ("b", 490), [("walk", "b"), ("wait", 490)]),
                   (490, ("a", 500), [("walk", "b"), ("walk", "a"), ("wait", 500)]),
                   (500, ("a", 500), [("walk", "b"), ("walk", "a"), ("wait", 500)]))

    def test_a_ride_cut_where_the_new_legs_begin(self):
        plan = ("a", 480, [("ride", "k", 0, 0, 3, "city")])
        for moment in [485, 500, 504]:
            self.keeps(plan, (moment, ("b", 504), [("ride", "k", 0, 0, 1, "city"), ("wait", 504)]),
                       (moment, ("c", 520), [("ride", "k", 0, 0, 2, "city"), ("wait", 520)]),
                       (moment, ("d", 547), [("ride", "k", 0, 0, 3, "city"), ("wait", 547)]))
        self.keeps(plan, (525, ("c", 520), [("ride", "k", 0, 0, 2, "city"), ("wait", 520)]))
        plan = ("a", 480, [("ride", "k", 0, 0, 1, "city"), ("ride", "k", 0, 1, 3, None)])
        self.keeps(plan, (510, ("c", 520), [("ride", "k", 0, 0, 1, "city"), ("ride", "k", 0, 1, 2, None),
                                            ("wait", 520)]))

    def test_waits(self):
        plan = ("a", 480, [("wait", 490), ("walk", "b"), ("wait", 520), ("walk", "a")])
        self.keeps(plan, (489, ("a", 489), [("wait", 489)]),
                   (490, ("b", 500), [("wait", 490), ("walk", "b"), ("wait", 500)]),
                   (500, ("b", 500), [("wait", 490), ("walk", "b"), ("wait", 500)]),
                   (519, ("b", 519), [("wait", 490), ("walk", "b"), ("wait", 519)]),
                   (520, ("a", 530), [("wait", 490), ("walk", "b"), ("wait", 520), ("walk", "a"), ("wait", 530)]))

    def test_broken_legs_are_left_out(self):
        first = ("ride", "k", 0, 0, 1, "city")
        plan = ("a", 480, [first, L, ("walk", "b")])
        self.keeps(plan, (500, ("b", 504), [first, ("wait", 504)]), (600, ("b", 600), [first, ("wait", 600)]),
                   (490, ("b", 504), [first, ("wait", 504)]))
        self.keeps(("a", 480, [L]), (480, ("a", 480), [("wait", 480)]))

    def test_by_notices(self):
        plan = ("a", 480, [K, L])
        self.notices.late("k", 0, 1, 10)
        self.keeps(plan, (500, ("b", 514), [("ride", "k", 0, 0, 1, "city"), ("wait", 514)]))
        self.assertEqual(legs_to(self.net, plan, 500, ("b", 504)), [("ride", "k", 0, 0, 1, "city"), ("wait", 504)])

    def test_what_is_handed_in_is_not_changed(self):
        plan = ("a", 480, [K, L])
        self.notices.late("k", 0, 1, 10)
        before = (copy.deepcopy(plan), told_of(self.net), self.notices.told())
        for moment in range(470, 600, 3):
            where_at(self.net, plan, moment, self.notices)
            for beginning in beginnings_at(self.net, plan, moment, self.notices):
                legs_to(self.net, plan, moment, beginning, self.notices).clear()
            beginnings_at(self.net, plan, moment, self.notices).clear()
        self.assertEqual((plan, told_of(self.net), self.notices.told()), before)


def plain_rows(net, plan, notices):
    """Rows (from, till, where, leg) of a plan, one behind the other, till the first leg that can't be gone."""
    rows = []
    for count in range(len(plan[2])):
        ahead = (plan[0], plan[1], plan[2][:count])
        try:
            come = gone(net, ahead, notices)[0]
            end = gone(net, (plan[0], plan[1], plan[2][:count + 1]), notices)[0]
        except NoPlan:
            return rows + [(rows[-1][1] if rows else plan[1], None, ("at", stop_of(net, ahead)))]
        leg, stop = plan[2][count], stop_of(net, ahead)
        if leg[0] == "walk":
            rows.append((come, end, ("walking", stop, leg[1])))
        elif leg[0] == "wait":
            rows.append((come, end, ("at", stop)))
        else:
            calls = notices.moments(leg[1], leg[2])
            rows.append((come, calls[leg[3]][2], ("at", stop)))
            for number in range(leg[3], leg[4]):
                till = end if number + 1 == leg[4] else calls[number + 1][2]
                rows.append((calls[number][2], till, ("on", leg[1], leg[2], number)))
    return rows + [(rows[-1][1] if rows else plan[1], None, ("there",))]


def stop_of(net, plan):
    stop = plan[0]
    for leg in plan[2]:
        if leg[0] == "walk":
            stop = leg[1]
        elif leg[0] == "ride":
            stop = net.calls(leg[1])[leg[4]][0]
    return stop


class HeldAgainstAPlainAccount(unittest.TestCase):
    def drawn_plan(self, net, draw):
        """Some legs, most of which can be gone."""
        stop, begin = draw.choice(net.stops()), draw.randint(280, 310)
        found = front_from(net, [(stop, begin)], draw.choice(net.stops()))
        legs = draw.choice(found)[1][2] if found else []
        at = draw.randint(0, len(legs))
        if draw.randrange(2):
            legs = legs[:at] + [("wait", draw.randint(290, 330))] + legs[at:]
        return (stop, begin, legs)

    def test_drawn_plans(self):
        kinds = []
        for seed in range(60):
            draw = random.Random(seed)
            net = drawn_net(seed, draw.randint(3, 6), draw.randint(4, 10))
            plan = self.drawn_plan(net, draw)
            notices = drawn_notices(net, seed, [0], seed % 4)
            rows = plain_rows(net, plan, notices)
            for moment in range(270, 420):
                told = [where for first, till, where in rows if first <= moment and (till is None or moment < till)]
                wanted = told[0] if moment >= plan[1] else ("at", plan[0])
                found = where_at(net, plan, moment, notices)
                self.assertEqual(found, wanted)
                kinds.append(found[0])
                self.hold_beginnings(net, plan, moment, notices, found)
        self.assertEqual(sorted(set(kinds)), ["at", "on", "there", "walking"])

    def hold_beginnings(self, net, plan, moment, notices, where):
        beginnings = beginnings_at(net, plan, moment, notices)
        if where[0] != "on":
            self.assertEqual(len(beginnings), 1)
            if where[0] == "at":
                self.assertEqual(beginnings[0][0], where[1])
            self.assertGreaterEqual(beginnings[0][1], moment)
        if where[0] == "walking":
            self.assertEqual(beginnings[0][0], where[2])
        if where[0] == "on":
            calls = notices.moments(where[1], where[2])[where[3] + 1:]
            told = [(stop, arrive + net.change(stop)) for stop, arrive, leave in calls]
            self.assertEqual(beginnings, told[:len(beginnings)])
        for beginning in beginnings:
            legs = legs_to(net, plan, moment, beginning, notices)
            if moment < plan[1]:
                self.assertEqual(legs, [])
                continue
            self.assertEqual(legs[-1], ("wait", beginning[1]))
            kept = (plan[0], plan[1], legs)
            self.assertEqual(stop_of(net, kept), beginning[0])
            self.assertEqual(gone(net, kept, notices)[0], beginning[1])


if __name__ == "__main__":
    unittest.main()
