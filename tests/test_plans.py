import copy
import random
import unittest

from roadbook.errors import NoPlan, RoadError
from roadbook.notices import Notices
from roadbook.plans import gone
from roadbook.reader import net_of

from kinds import HUGE, NO_LISTS, NO_NUMBERS, NO_TEXTS, UNKNOWN, Hostile
from nets import told_of

DAY = 1440

LINES = """
stop a 1 5
stop b 1 4
stop c 2 0
stop d 3 7
stop e 1 0
walk a b 10
walk b c 6
days all always
days odd each 2 1
ticket city 200 60 12
ticket wide 500 90 123
ticket three 100 30 3
trip k all a 08:00 08:05 b 08:20 08:25 c 08:30 08:40 d 09:00 09:00
trip l all b 08:00 08:24 a 08:50 08:55 b 09:10 09:10
trip odd odd a 10:00 10:00 b 10:30 10:30
trip night all a 23:50 23:50 b 24:20 24:20
"""

NO_LEGS = [
    (), ("walk",), ("walk", "b", 5), ("walk", "b", "c"), ("walk", 5), ("walk", None), ("walk", True), ("walk", ["b"]),
    ("walk", ("b",)), ("wait",), ("wait", 5, 6), ("wait", -1), ("wait", 14400000), ("wait", True), ("wait", "5"),
    ("wait", None), ("wait", [5]), ("wait", 5.0), ("ride",), ("ride", "k", 0, 0, 1), ("ride", "k", 0, 0, 1, None, None),
    ("ride", 5, 0, 0, 1, None), ("ride", None, 0, 0, 1, None), ("ride", "k", "0", 0, 1, None),
    ("ride", "k", None, 0, 1, None), ("ride", "k", False, 0, 1, None), ("ride", "k", 0, True, 1, None),
    ("ride", "k", 0, None, 1, None), ("ride", "k", 0, 0, True, None), ("ride", "k", 0, 0, 1.0, None),
    ("ride", "k", 0, 0, "1", "city"), ("ride", "k", 0, 0, 1, 5), ("ride", "k", 0, 0, 1, True),
    ("ride", "k", 0, 0, 1, ["city"]), ("ride", "k", 0, 0, 1, ("city",)), ("fly", "b"),
    ("fly", "k", 0, 0, 1, "city"), ("Walk", "b"), ("walk ", "b"),
    ("", "b"), (5, "b"), (None, "b"), (["walk"], "b"), (("walk",), "b"), ["walk", "b"], ["wait", 5], "walk", "walk b",
    ("b",), ("wait", "b"), ("walk", Hostile()), (Hostile(), "b"), ("ride", Hostile(), 0, 0, 1, None),
    ("ride", "k", Hostile(), 0, 1, None), ("ride", "k", 0, 0, 1, Hostile()), {"walk": "b"},
]


class PlansCase(unittest.TestCase):
    def setUp(self):
        self.net = net_of(LINES)

    def gone(self, stop, begin, legs, notices=None):
        return gone(self.net, (stop, begin, legs), notices)

    def refused(self, at, plan, notices=None):
        with self.assertRaises(RoadError) as caught:
            gone(self.net, plan, notices)
        self.assertIs(caught.exception.__class__, NoPlan)
        self.assertEqual((caught.exception.at, caught.exception.at is None), (at, at is None))

    def stuck(self, at, stop, begin, legs, notices=None):
        self.refused(at, (stop, begin, legs), notices)


class Forms(PlansCase):
    def test_a_plan_of_no_legs(self):
        self.assertEqual(self.gone("a", 480, []), (480, 0, 0))
        self.assertEqual(self.gone("a", 0, []), (0, 0, 0))
        self.assertEqual(self.gone("a", 14000000, []), (14000000, 0, 0))

    def test_what_is_no_plan(self):
        for wrong in NO_NUMBERS + HUGE + [0, 5, -1]:
            self.refused(None, wrong)
        for wrong in [("a",), ("a", 480), ("a", 480, [], None), ["a", 480, []], (480, "a", []), ("a", [], 480),
                      {"a": 480}, "a 480"]:
            self.refused(None, wrong)

    def test_stops(self):
        for wrong in NO_TEXTS + UNKNOWN + ["k", "city", "all"]:
            self.refused(None, (wrong, 480, []))

    def test_begins(self):
        for wrong in [-1, 14000001, 14399999] + HUGE + NO_NUMBERS:
            self.refused(None, ("a", wrong, []))

    def test_legs_that_are_no_list(self):
        for wrong in NO_LISTS:
            self.refused(None, ("a", 480, wrong))
        self.refused(None, ("a", 480, (("walk", "b"),)))
        self.refused(None, ("a", 480, ("walk", "b")))

    def test_legs_of_no_form(self):
        for wrong in NO_LEGS + NO_NUMBERS + HUGE + [0, 5]:
            self.refused(None, ("a", 480, [wrong]))
            self.refused(None, ("a", 480, [("walk", "b"), wrong]))

    def test_the_form_goes_ahead_of_what_can_not_be_gone(self):
        for wrong in NO_LEGS:
            self.refused(None, ("a", 480, [("walk", "a"), wrong]))

    def test_any_texts_and_numbers_are_a_leg_by_form(self):
        for text in UNKNOWN + ["k", "city"]:
            self.stuck(0, "a", 480, [("walk", text)])
            self.stuck(0, "a", 480, [("ride", text + "x", 0, 0, 1, "city")])
            self.stuck(0, "a", 480, [("ride", "k", 0, 0, 1, text + "x")])
        for number in [-1, 10000] + HUGE:
            self.stuck(0, "a", 480, [("ride", "k", number, 0, 1, "city")])
        for number in [-1, 1, 2, 4] + HUGE:
            self.stuck(0, "a", 480, [("ride", "k", 0, number, 1, "city")])
        for number in [-1, 0, 4, 5] + HUGE:
            self.stuck(0, "a", 480, [("ride", "k", 0, 0, number, "wide")])

    def test_calls_from_behind(self):
        self.stuck(0, "a", 480, [("ride", "k", 0, -4, 1, "city")])
        self.stuck(0, "a", 480, [("ride", "k", 0, 0, -3, "city")])
        self.stuck(0, "d", 480, [("ride", "k", 0, 3, 4, "wide")])
        self.stuck(0, "d", 480, [("ride", "k", 0, 3, 0, "wide")])
        for off in [0, 1, 2, 3, 4]:
            self.stuck(0, "d", 480, [("ride", "k", 0, -1, off, "wide")])


class Walks(PlansCase):
    def test_the_minutes(self):
        self.assertEqual(self.gone("a", 480, [("walk", "b")]), (490, 0, 0))
        self.assertEqual(self.gone("a", 480, [("walk", "c")]), (496, 0, 0))
        self.assertEqual(self.gone("c", 480, [("walk", "a")]), (496, 0, 0))

    def test_a_walk_may_follow_a_walk(self):
        self.assertEqual(self.gone("a", 480, [("walk", "b"), ("walk", "c"), ("walk", "a")]), (512, 0, 0))
        self.assertEqual(self.gone("a", 480, [("walk", "b"), ("walk", "a")]), (500, 0, 0))

    def test_none_to_where_one_stands(self):
        self.stuck(0, "a", 480, [("walk", "a")])
        self.stuck(1, "a", 480, [("walk", "b"), ("walk", "b")])
        self.stuck(1, "a", 480, [("ride", "k", 0, 0, 1, "city"), ("walk", "b")])

    def test_where_none_leads(self):
        self.stuck(0, "a", 480, [("walk", "d")])
        self.stuck(0, "d", 480, [("walk", "a")])

    def test_no_end_is_set(self):
        self.assertEqual(self.gone("a", 0, [("walk", "b"), ("walk", "a")] * 200), (4000, 0, 0))


class Waits(PlansCase):
    def test_till_then(self):
        self.assertEqual(self.gone("a", 480, [("wait", 500)]), (500, 0, 0))
        self.assertEqual(self.gone("a", 480, [("wait", 14399999)]), (14399999, 0, 0))
        self.assertEqual(self.gone("a", 480, [("wait", 500), ("walk", "b")]), (510, 0, 0))
        self.assertEqual(self.gone("a", 480, [("walk", "b"), ("wait", 491)]), (491, 0, 0))

    def test_what_is_past(self):
        for moment in [0, 479, 480]:
            self.assertEqual(self.gone("a", 480, [("wait", moment)]), (480, 0, 0))
        self.assertEqual(self.gone("a", 480, [("walk", "b"), ("wait", 489)]), (490, 0, 0))
        self.assertEqual(self.gone("a", 480, [("wait", 500), ("wait", 490)]), (500, 0, 0))
        self.assertEqual(self.gone("a", 480, [("wait", 490), ("wait", 500)]), (500, 0, 0))

    def test_no_boarding_sooner(self):
        ride = ("ride", "k", 0, 0, 1, "city")
        for moment, wanted in [(484, True), (485, True), (486, False)]:
            if wanted:
                self.assertEqual(self.gone("a", 480, [("wait", moment), ride]), (500, 1, 200))
            else:
                self.stuck(1, "a", 480, [("wait", moment), ride])

    def test_change_minutes_are_wanted_in_spite_of_a_wait(self):
        first, second = ("ride", "k", 0, 0, 1, "city"), ("ride", "l", 0, 0, 1, None)
        for moment in [0, 500, 501, 503, 504]:
            self.assertEqual(self.gone("a", 480, [first, ("wait", moment), second]), (530, 2, 200))
        self.stuck(2, "a", 480, [first, ("wait", 505), second])
        net = net_of(LINES.replace("stop b 1 4", "stop b 1 5"))
        for moment in [0, 500, 504]:
            with self.assertRaises(NoPlan) as caught:
                gone(net, ("a", 480, [first, ("wait", moment), second]))
            self.assertEqual(caught.exception.at, 2)

    def test_a_wait_and_the_change_minutes_do_not_add_up(self):
        net = net_of(LINES.replace("stop b 1 4", "stop b 1 3"))
        legs = [("ride", "k", 0, 0, 1, "city"), ("wait", 504), ("ride", "l", 0, 0, 1, None)]
        self.assertEqual(gone(net, ("a", 480, legs)), (530, 2, 200))
        legs = [("wait", 485), ("ride", "k", 0, 0, 1, "city")]
        self.assertEqual(gone(net, ("a", 480, legs)), (500, 1, 200))

    def test_a_walk_begins_behind_it(self):
        legs = [("ride", "k", 0, 0, 1, "city"), ("wait", 510), ("walk", "c")]
        self.assertEqual(self.gone("a", 480, legs), (516, 1, 200))
        legs = [("ride", "k", 0, 0, 1, "city"), ("wait", 499), ("walk", "c")]
        self.assertEqual(self.gone("a", 480, legs), (506, 1, 200))


class Rides(PlansCase):
    def test_worths(self):
        self.assertEqual(self.gone("a", 480, [("ride", "k", 0, 0, 1, "city")]), (500, 1, 200))
        self.assertEqual(self.gone("a", 480, [("ride", "k", 0, 0, 2, "city")]), (510, 1, 200))
        self.assertEqual(self.gone("a", 480, [("ride", "k", 0, 0, 3, "wide")]), (540, 1, 500))
        self.assertEqual(self.gone("b", 480, [("ride", "k", 0, 1, 2, "wide")]), (510, 1, 500))
        self.assertEqual(self.gone("a", 480, [("ride", "k", 2, 0, 1, "city")]), (2 * DAY + 500, 1, 200))

    def test_the_leaving_and_where_one_begins(self):
        for begin, wanted in [(484, True), (485, True), (486, False)]:
            if wanted:
                self.assertEqual(self.gone("a", begin, [("ride", "k", 0, 0, 1, "city")]), (500, 1, 200))
            else:
                self.stuck(0, "a", begin, [("ride", "k", 0, 0, 1, "city")])

    def test_another_stop(self):
        self.stuck(0, "b", 480, [("ride", "k", 0, 0, 1, "city")])
        self.stuck(0, "a", 480, [("ride", "k", 0, 1, 2, "city")])

    def test_days_on_which_it_does_not_run(self):
        self.stuck(0, "a", 480, [("ride", "odd", 0, 0, 1, "city")])
        self.assertEqual(self.gone("a", 480, [("ride", "odd", 1, 0, 1, "city")]), (DAY + 630, 1, 200))
        self.stuck(0, "a", 480, [("ride", "odd", 2, 0, 1, "city")])

    def test_the_last_day(self):
        legs = [("ride", "night", 9999, 0, 1, "city")]
        self.assertEqual(self.gone("a", 14000000, legs), (14400020, 1, 200))

    def test_change_minutes(self):
        for change, wanted in [(0, True), (4, True), (5, False)]:
            self.net = net_of(LINES.replace("stop b 1 4", f"stop b 1 {change}"))
            legs = [("ride", "k", 0, 0, 1, "city"), ("ride", "l", 0, 0, 1, None)]
            if wanted:
                self.assertEqual(self.gone("a", 480, legs), (530, 2, 200))
            else:
                self.stuck(1, "a", 480, legs)

    def test_behind_a_walk_none_are_wanted(self):
        walk = net_of(LINES.replace("walk b c 6", "walk b c 2").replace("stop b 1 4", "stop b 1 30"))
        first, second = ("ride", "k", 0, 0, 1, "city"), ("ride", "l", 0, 0, 1, None)
        legs = [first, ("walk", "c"), ("walk", "b"), second]
        self.assertEqual(gone(walk, ("a", 480, legs)), (530, 2, 200))
        slow = net_of(LINES.replace("walk b c 6", "walk b c 3"))
        with self.assertRaises(NoPlan) as caught:
            gone(slow, ("a", 480, legs))
        self.assertEqual(caught.exception.at, 3)

    def test_a_walk_that_just_comes(self):
        ride = ("ride", "l", 0, 0, 1, "city")
        self.assertEqual(self.gone("a", 494, [("walk", "b"), ride]), (530, 1, 200))
        self.stuck(1, "a", 495, [("walk", "b"), ride])

    def test_the_same_run_again(self):
        legs = [("ride", "k", 0, 0, 1, "city"), ("ride", "k", 0, 1, 2, None)]
        self.assertEqual(self.gone("a", 480, legs), (510, 2, 200))
        legs = [("ride", "l", 0, 0, 1, "city"), ("ride", "l", 0, 1, 2, None)]
        self.assertEqual(self.gone("b", 480, legs), (550, 2, 200))
        legs = [("ride", "l", 0, 0, 2, "city")]
        self.assertEqual(self.gone("b", 480, legs), (550, 1, 200))

    def test_more_rides_than_are_planned(self):
        legs = [("ride", "k", 0, 0, 1, "city"), ("ride", "k", 0, 1, 2, None), ("ride", "k", 0, 2, 3, "wide"),
                ("wait", DAY), ("walk", "d")]
        self.stuck(4, "a", 480, legs)
        legs[3:] = [("ride", "k", 0, 3, 4, None)]
        self.stuck(3, "a", 480, legs)
        self.assertEqual(self.gone("a", 480, legs[:3]), (540, 3, 700))
        back = [("ride", "k", 0, 0, 1, "city"), ("walk", "a")]
        legs = [leg if leg[0] == "walk" else ("ride", "k", day, 0, 1, "city") for day in range(6) for leg in back]
        self.assertEqual(self.gone("a", 480, legs), (5 * DAY + 510, 6, 1200))


class Tickets(PlansCase):
    def test_one_that_lacks_a_zone(self):
        self.stuck(0, "a", 480, [("ride", "k", 0, 0, 3, "city")])
        self.stuck(0, "a", 480, [("ride", "k", 0, 0, 1, "three")])
        self.stuck(0, "c", 480, [("ride", "k", 0, 2, 3, "city")])
        self.stuck(0, "c", 480, [("ride", "k", 0, 2, 3, "three")])

    def test_nothing_held(self):
        self.stuck(0, "a", 480, [("ride", "k", 0, 0, 1, None)])
        self.stuck(1, "a", 480, [("walk", "b"), ("ride", "l", 0, 0, 1, None)])

    def test_one_held_that_lacks_a_zone(self):
        self.stuck(1, "a", 480, [("ride", "k", 0, 0, 2, "city"), ("ride", "k", 0, 2, 3, None)])
        legs = [("ride", "k", 0, 0, 2, "city"), ("ride", "k", 0, 2, 3, "wide")]
        self.assertEqual(self.gone("a", 480, legs), (540, 2, 700))

    def test_one_held_a_minute_ahead_of_its_end_at_it_and_behind_it(self):
        legs = [("ride", "k", 0, 0, 1, "city"), ("ride", "l", 0, 0, 1, None)]
        for lasts, wanted in [(20, True), (19, False), (18, False)]:
            self.net = net_of(LINES.replace("ticket city 200 60", f"ticket city 200 {lasts}"))
            if wanted:
                self.assertEqual(self.gone("a", 480, legs), (530, 2, 200))
            else:
                self.stuck(1, "a", 480, legs)

    def test_the_one_ahead_is_given_up(self):
        legs = [("ride", "k", 0, 0, 1, "wide"), ("ride", "k", 0, 1, 2, "city"), ("ride", "k", 0, 2, 3, None)]
        self.stuck(2, "a", 480, legs)
        legs[1] = ("ride", "k", 0, 1, 2, None)
        self.assertEqual(self.gone("a", 480, legs), (540, 3, 500))

    def test_the_same_one_bought_again(self):
        legs = [("ride", "k", 0, 0, 1, "city"), ("ride", "l", 0, 0, 1, "city"), ("ride", "l", 0, 1, 2, None)]
        self.assertEqual(self.gone("a", 480, legs), (550, 3, 400))


class FirstLegs(PlansCase):
    def test_the_first_of_several(self):
        good, bad = ("walk", "b"), ("walk", "d")
        for at in range(4):
            legs = [("walk", "b"), ("walk", "a"), ("walk", "b"), ("walk", "a")]
            legs[at] = bad
            self.stuck(at, "a", 480, legs)
        self.stuck(0, "a", 480, [bad, good, bad])


class WithNotices(PlansCase):
    def setUp(self):
        PlansCase.setUp(self)
        self.notices = Notices(self.net)
        self.legs = [("ride", "k", 0, 0, 1, "city"), ("ride", "l", 0, 0, 1, None)]

    def test_none_told(self):
        self.assertEqual(self.gone("a", 480, self.legs, self.notices), (530, 2, 200))
        self.assertEqual(gone(self.net, ("a", 480, self.legs), notices=None), (530, 2, 200))

    def test_late(self):
        self.notices.late("k", 0, 1, 1)
        self.stuck(1, "a", 480, self.legs, self.notices)
        self.assertEqual(self.gone("a", 480, self.legs[:1], self.notices), (501, 1, 200))
        self.notices.late("l", 0, 0, 1)
        self.assertEqual(self.gone("a", 480, self.legs, self.notices), (531, 2, 200))
        self.assertEqual(self.gone("a", 480, self.legs), (530, 2, 200))

    def test_late_where_one_boards(self):
        self.notices.late("k", 0, 0, 10)
        self.assertEqual(self.gone("a", 495, self.legs[:1], self.notices), (510, 1, 200))
        self.stuck(0, "a", 496, self.legs[:1], self.notices)

    def test_a_ticket_that_ends_ahead_of_a_late_run(self):
        self.notices.late("l", 0, 0, 40)
        self.assertEqual(self.gone("a", 480, self.legs, self.notices), (570, 2, 200))
        self.notices.late("l", 0, 0, 41)
        self.stuck(1, "a", 480, self.legs, self.notices)

    def test_out_and_back(self):
        self.notices.out("l", 0)
        self.stuck(1, "a", 480, self.legs, self.notices)
        self.notices.out("k", 0)
        self.stuck(0, "a", 480, self.legs, self.notices)
        self.notices.back("k", 0)
        self.notices.back("l", 0)
        self.assertEqual(self.gone("a", 480, self.legs, self.notices), (530, 2, 200))

    def test_nothing_that_is_handed_in_is_changed(self):
        self.notices.late("k", 0, 1, 1)
        plan = ("a", 480, self.legs)
        before = (told_of(self.net), self.notices.told(), copy.deepcopy(plan))
        self.refused(1, plan, self.notices)
        self.gone("a", 480, self.legs[:1], self.notices)
        self.assertEqual((told_of(self.net), self.notices.told(), plan), before)


class HeldAgainstAPlainAccount(PlansCase):
    def plain(self, stop, moment, legs, notices):
        """The worth, or the number of the first leg that can't be gone."""
        feet = {("a", "b"): 10, ("b", "c"): 6, ("a", "c"): 16}
        rode, floor, ticket, until, rides, price = False, 0, None, 0, 0, 0
        for at, leg in enumerate(legs):
            if leg[0] == "wait":
                floor = max(floor, leg[1])
                continue
            if leg[0] == "walk":
                minutes = feet.get((stop, leg[1]), feet.get((leg[1], stop)))
                if minutes is None:
                    return at
                stop, moment, rode, floor = leg[1], max(moment, floor) + minutes, False, 0
                continue
            kind, trip, day, board, off, bought = leg
            calls = notices.moments(trip, day)
            if calls is None or not 0 <= board < off < len(calls) or calls[board][0] != stop:
                return at
            leave = calls[board][2]
            if leave < moment + (self.net.change(stop) if rode else 0) or leave < floor:
                return at
            if bought is not None:
                cost, lasts, zones = self.net.ticket(bought)
                price, ticket, until = price + cost, bought, leave + lasts
            if ticket is None or leave >= until:
                return at
            if not all(self.net.zone(call[0]) in self.net.ticket(ticket)[2] for call in calls[board:off + 1]):
                return at
            stop, moment, rode, floor, rides = calls[off][0], calls[off][1], True, 0, rides + 1
        return (max(moment, floor), rides, price)

    def test_drawn_plans(self):
        draw = random.Random(5)
        seen = []
        for _ in range(4000):
            notices = Notices(self.net)
            if draw.randrange(2):
                notices.late(draw.choice("kl"), 0, 0, draw.choice([1, 5, 10]))
            if draw.randrange(6) == 0:
                notices.out(draw.choice("kl"), 0)
            legs = []
            for _ in range(draw.randint(0, 5)):
                kind = draw.randrange(5)
                if kind == 0:
                    legs.append(("wait", draw.randint(470, 560)))
                elif kind == 1:
                    legs.append(("walk", draw.choice("abcd")))
                else:
                    board = draw.randrange(3)
                    legs.append(("ride", draw.choice("kkl"), 0, board, board + draw.choice([1, 1, 2]),
                                 draw.choice([None, "city", "wide"])))
            stop, begin = draw.choice("abc"), draw.randint(470, 490)
            wanted = self.plain(stop, begin, legs, notices)
            seen.append(wanted[1] if isinstance(wanted, tuple) else None)
            if isinstance(wanted, tuple):
                self.assertEqual(self.gone(stop, begin, legs, notices), wanted)
            else:
                self.stuck(wanted, stop, begin, legs, notices)
        self.assertTrue({None, 0, 1, 2} <= set(seen))


if __name__ == "__main__":
    unittest.main()
