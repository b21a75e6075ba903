import random
import unittest

from roadbook.errors import BadNumber, RoadError, TooMany
from roadbook.labels import follow, least_labels, no_worse
from roadbook.net import Net
from roadbook.notices import Notices
from roadbook.reader import net_of

from journeys import all_labels, as_good, drawn_net, drawn_notices, plain_follow, plain_least, plain_order
from kinds import HUGE, NO_NUMBERS
from nets import crowded_net, told_of

DAY = 1440

LINES = """
stop a 1 5
stop b 1 4
stop c 2 0
stop d 3 7
walk b c 6
days all always
ticket city 200 60 12
ticket wide 500 90 123
trip k all a 08:00 08:05 b 08:20 08:25 c 08:30 08:40 d 09:00 09:00
trip l all b 08:20 08:24 a 08:50 08:50
"""
BEGIN = ("a", 480, 0, 0, None, -1)


class NoWorse(unittest.TestCase):
    def test_the_same(self):
        for label in [BEGIN, ("b", 500, 1, 200, "city", 545)]:
            self.assertIs(no_worse(label, label), True)

    def test_each_number(self):
        label = ("b", 500, 2, 200, "city", 545)
        for at in (1, 2, 3):
            for more, wanted in [(-1, True), (0, True), (1, False)]:
                other = label[:at] + (label[at] + more,) + label[at + 1:]
                self.assertIs(no_worse(other, label), wanted)
                self.assertIs(no_worse(label, other), more >= 0)

    def test_another_stop(self):
        self.assertIs(no_worse(("a", 1, 0, 0, None, -1), ("b", 5, 1, 5, None, -1)), False)

    def test_tickets(self):
        none = ("b", 500, 1, 200, None, -1)
        city = ("b", 500, 1, 200, "city", 545)
        longer = ("b", 500, 1, 200, "city", 546)
        wide = ("b", 500, 1, 200, "wide", 546)
        self.assertIs(no_worse(city, none), True)
        self.assertIs(no_worse(none, city), False)
        self.assertIs(no_worse(none, none), True)
        self.assertIs(no_worse(longer, city), True)
        self.assertIs(no_worse(city, longer), False)
        self.assertIs(no_worse(wide, city), False)
        self.assertIs(no_worse(city, wide), False)

    def test_better_in_one_and_worse_in_another(self):
        label = ("b", 500, 2, 200, "city", 545)
        for other in [("b", 499, 3, 200, "city", 545), ("b", 501, 1, 200, "city", 545), ("b", 499, 2, 201, None, -1),
                      ("b", 499, 2, 199, "city", 544), ("b", 499, 1, 100, None, -1)]:
            self.assertIs(no_worse(other, label), False)

    def test_held_against_a_plain_account(self):
        draw = random.Random(3)
        for _ in range(3000):
            pair = []
            for _ in range(2):
                ticket, until = draw.choice([(None, -1), ("t", 20), ("t", 21), ("u", 20), ("u", 21)])
                numbers = (draw.randint(5, 7), draw.randint(1, 2), draw.randint(1, 2))
                pair.append((draw.choice("ab"),) + numbers + (ticket, until))
            self.assertIs(no_worse(pair[0], pair[1]), as_good(pair[0], pair[1]))


class LabelsCase(unittest.TestCase):
    def setUp(self):
        self.net = net_of(LINES)


class Follow(LabelsCase):
    def test_from_a_beginning(self):
        found = follow(self.net, BEGIN, 1000)
        self.assertEqual(found, [
            ("b", 500, 1, 200, "city", 545), ("b", 500, 1, 500, "wide", 575), ("c", 510, 1, 200, "city", 545),
            ("c", 510, 1, 500, "wide", 575), ("d", 540, 1, 500, "wide", 575)])
        self.assertIsInstance(found, list)
        self.assertTrue(all(isinstance(label, tuple) for label in found))

    def test_with_the_ticket_held_and_with_each_bought(self):
        label = ("b", 500, 1, 200, "city", 545)
        found = [each for each in follow(self.net, label, 1000) if each[0] == "a"]
        self.assertEqual(found, [
            ("a", 530, 2, 200, "city", 545), ("a", 530, 2, 400, "city", 564), ("a", 530, 2, 700, "wide", 594)])

    def test_change_minutes_only_where_it_has_rides(self):
        for come, rides, wanted in [(500, 1, True), (501, 1, False), (501, 0, True), (504, 0, True), (505, 0, False)]:
            found = follow(self.net, ("b", come, rides, 0, None, -1), 1000)
            self.assertEqual("a" in [label[0] for label in found], wanted)

    def test_behind_a_walk_none_are_wanted(self):
        label = ("c", 498, 1, 0, None, -1)
        self.assertIn(("a", 530, 2, 200, "city", 564), follow(self.net, label, 1000))
        self.assertNotIn("a", [each[0] for each in follow(self.net, ("c", 499, 1, 0, None, -1), 1000)])
        self.assertNotIn("a", [each[0] for each in follow(self.net, ("d", 0, 1, 0, None, -1), 600)])

    def test_a_ticket_a_minute_ahead_of_its_end_at_it_and_behind_it(self):
        for until, wanted in [(505, True), (504, False), (503, False)]:
            found = follow(self.net, ("b", 500, 1, 0, "city", until), 1000)
            self.assertEqual(("a", 530, 2, 0, None, -1) in found, wanted)

    def test_a_ticket_that_has_ended_where_one_gets_off(self):
        for until, wanted in [(531, ("city", 531)), (530, (None, -1)), (529, (None, -1))]:
            found = follow(self.net, ("b", 500, 1, 0, "city", until), 1000)
            self.assertEqual([label[4:] for label in found if label[0] == "a" and label[3] == 0], [wanted])
        for lasts, wanted in [(16, ("city", 501)), (15, (None, -1)), (14, (None, -1))]:
            net = net_of(LINES.replace("city 200 60", f"city 200 {lasts}"))
            found = follow(net, BEGIN, 500)
            self.assertEqual([label[4:] for label in found if label[3] == 200], [wanted])

    def test_zones_that_the_one_held_has_not(self):
        found = follow(self.net, ("c", 510, 1, 0, "city", 600), 1000)
        self.assertEqual([label for label in found if label[0] == "d"], [("d", 540, 2, 500, "wide", 610)])
        found = follow(self.net, ("c", 510, 1, 0, "wide", 600), 1000)
        self.assertEqual([label for label in found if label[0] == "d"], [
            ("d", 540, 2, 0, "wide", 600), ("d", 540, 2, 500, "wide", 610)])

    def test_no_ticket_for_the_zones(self):
        net = net_of(LINES.replace("wide 500 90 123", "wide 500 90 12"))
        self.assertNotIn("d", [label[0] for label in follow(net, BEGIN, 1000)])

    def test_the_end(self):
        for end, wanted in [(499, []), (500, ["b"]), (501, ["b"]), (509, ["b"]), (510, ["b", "c"]), (479, []),
                            (0, [])]:
            self.assertEqual(sorted({label[0] for label in follow(self.net, BEGIN, end)}), wanted)

    def test_each_once(self):
        net = net_of(LINES + "trip m all a 08:00 08:05 b 08:20 08:21")
        found = follow(net, BEGIN, 500)
        self.assertEqual(found, [("b", 500, 1, 200, "city", 545), ("b", 500, 1, 500, "wide", 575)])

    def test_the_order(self):
        net = net_of(
            "stop z 1 0\nstop m 1 0\nstop a 1 0\ndays all always\nticket y 100 1440 1\nticket x 100 1440 1\n"
            "ticket o 100 5 1\ntrip k all z 08:00 08:00 m 08:10 08:10 a 08:20 08:20\n"
            "trip b all z 07:59 07:59 a 08:10 08:10")
        found = follow(net, ("z", 0, 0, 0, None, -1), 1000)
        self.assertEqual(found, [
            ("a", 490, 1, 100, None, -1), ("a", 490, 1, 100, "x", 1919), ("a", 490, 1, 100, "y", 1919),
            ("a", 500, 1, 100, None, -1), ("a", 500, 1, 100, "x", 1920), ("a", 500, 1, 100, "y", 1920),
            ("m", 490, 1, 100, None, -1), ("m", 490, 1, 100, "x", 1920), ("m", 490, 1, 100, "y", 1920)])
        self.assertEqual(found, sorted(found, key=plain_order))

    def test_until_goes_ahead_of_the_ticket(self):
        net = net_of(
            "stop a 1 0\nstop b 1 0\ndays all always\nticket a 100 60 1\nticket b 100 50 1\n"
            "trip k all a 08:00 08:00 b 08:10 08:10")
        self.assertEqual(follow(net, ("a", 0, 0, 0, None, -1), 1000), [
            ("b", 490, 1, 100, "b", 530), ("b", 490, 1, 100, "a", 540)])

    def test_the_ticket_goes_last(self):
        net = net_of(
            "stop a 1 0\nstop b 1 0\ndays all always\nticket z 100 60 1\nticket y 0 60 1\nticket x 0 60 1\n"
            "trip k all a 08:00 08:00 b 08:10 08:10")
        self.assertEqual(follow(net, ("a", 0, 0, 0, "z", 540), 1000), [
            ("b", 490, 1, 0, "x", 540), ("b", 490, 1, 0, "y", 540), ("b", 490, 1, 0, "z", 540),
            ("b", 490, 1, 100, "z", 540)])

    def test_a_stop_that_a_run_calls_at_twice(self):
        net = net_of(
            "stop a 1 0\nstop b 1 0\ndays all always\nticket t 100 60 1\n"
            "trip k all a 08:00 08:00 b 08:10 08:10 a 08:20 08:20 b 08:30 08:30")
        self.assertEqual(follow(net, ("a", 480, 0, 0, None, -1), 1000), [
            ("a", 500, 1, 100, "t", 540), ("b", 490, 1, 100, "t", 540), ("b", 510, 1, 100, "t", 540),
            ("b", 510, 1, 100, "t", 560)])

    def test_runs_of_the_day_ahead(self):
        net = net_of(LINES + "trip night all a 23:50 23:50 b 24:20 24:30 c 47:58 47:59")
        found = follow(net, ("b", 3 * DAY + 30, 0, 0, None, -1), 3 * DAY + 1438)
        self.assertIn(("c", 3 * DAY + 1438, 1, 200, None, -1), found)

    def test_by_notices(self):
        notices = Notices(self.net)
        notices.late("l", 0, 0, 10)
        label = ("b", 510, 1, 0, None, -1)
        self.assertIn(("a", 540, 2, 200, "city", 574), follow(self.net, label, 1000, notices))
        self.assertEqual(follow(self.net, label, 1000), follow(self.net, label, 1000, None))
        self.assertNotIn("a", [each[0] for each in follow(self.net, label, 1000)])
        notices.out("l", 0)
        self.assertNotIn("a", [each[0] for each in follow(self.net, ("b", 500, 1, 0, None, -1), 1000, notices)])

    def test_held_against_a_plain_account(self):
        for seed in range(25):
            draw = random.Random(seed)
            net = drawn_net(seed, draw.randint(2, 6), draw.randint(1, 10))
            notices = None if seed % 3 == 0 else drawn_notices(net, seed, [0, 1], 4)
            labels = sorted(all_labels(net, [(draw.choice(net.stops()), 300)], 2, notices), key=plain_order)
            for label in draw.sample(labels, min(6, len(labels))):
                end = label[1] + draw.choice([30, 60, DAY])
                wanted = sorted(plain_follow(net, label, end, notices), key=plain_order)
                self.assertEqual(follow(net, label, end, notices), wanted)


class LeastLabels(LabelsCase):
    def test_ride_by_ride(self):
        every = least_labels(self.net, [("a", 480)])
        self.assertIsInstance(every, list)
        self.assertEqual(least_labels(self.net, [("a", 480)], 0), [BEGIN])
        self.assertEqual(least_labels(self.net, [("a", 480)], 1), [
            BEGIN, ("b", 500, 1, 200, "city", 545), ("b", 500, 1, 500, "wide", 575), ("c", 510, 1, 200, "city", 545),
            ("c", 510, 1, 500, "wide", 575), ("d", 540, 1, 500, "wide", 575)])
        for most in range(4):
            told = least_labels(self.net, [("a", 480)], most)
            self.assertEqual(told, [label for label in every if label[2] <= most])

    def test_no_other_one_is_no_worse(self):
        found = least_labels(self.net, [("a", 480)])
        for one in found:
            self.assertFalse(any(no_worse(other, one) for other in found if other != one))

    def test_1440_minutes_and_one_more(self):
        self.assertNotIn("b", [label[0] for label in least_labels(self.net, [("a", 499)])])
        self.assertIn(("b", DAY + 500, 1, 200, "city", DAY + 545), least_labels(self.net, [("a", 500)]))

    def test_several_beginnings(self):
        found = least_labels(self.net, [("b", 504), ("a", 480)], 0)
        self.assertEqual(found, [BEGIN, ("b", 504, 0, 0, None, -1)])
        found = least_labels(self.net, [("b", 504), ("a", 480)])
        self.assertIn(("a", 530, 1, 200, "city", 564), found)

    def test_of_two_beginnings_at_a_stop_the_earlier(self):
        for beginnings in [[("a", 480), ("a", 490)], [("a", 490), ("a", 480)], [("a", 480), ("a", 480)]]:
            self.assertEqual(least_labels(self.net, beginnings), least_labels(self.net, [("a", 480)]))

    def test_beginnings_in_time_of_the_earliest(self):
        for later, wanted in [(DAY, True), (DAY + 1, False)]:
            found = least_labels(self.net, [("d", 100 + later), ("a", 100)], 0)
            self.assertEqual(("d", 100 + later, 0, 0, None, -1) in found, wanted)
        found = least_labels(self.net, [("a", 480), ("b", 499)], 1)
        self.assertEqual(max(label[1] for label in found), 540)

    def test_a_label_of_no_ride_goes_without_change_minutes(self):
        found = least_labels(self.net, [("b", 504)])
        self.assertIn(("a", 530, 1, 200, "city", 564), found)

    def test_eight_beginnings(self):
        net = Net()
        for name in "abcdefgh":
            net.add_stop(name, 1, 0)
        found = least_labels(net, [(name, at) for at, name in enumerate("hgfedcba")])
        self.assertEqual(found, [(name, 7 - at, 0, 0, None, -1) for at, name in enumerate("abcdefgh")])

    def test_none_and_more_than_eight_are_not_refused(self):
        self.assertEqual(least_labels(self.net, []), [])
        self.assertEqual(least_labels(self.net, [("a", 480)] * 9), least_labels(self.net, [("a", 480)]))

    def test_the_first_and_the_last_begin(self):
        self.assertIn(("b", 500, 1, 200, "city", 545), least_labels(self.net, [("a", 0)]))
        last = 14000000 - 320
        self.assertIn(("b", last + 500, 1, 200, "city", last + 545), least_labels(self.net, [("a", 14000000)]))

    def test_the_most(self):
        for wrong in [-1, 4, 5] + HUGE + NO_NUMBERS:
            with self.assertRaises(RoadError) as caught:
                least_labels(self.net, [("a", 480)], wrong)
            self.assertIs(caught.exception.__class__, BadNumber)
            with self.assertRaises(BadNumber):
                least_labels(crowded_net(3), [("a", 0)], wrong)

    def test_150_are_told_and_more_are_refused(self):
        for most in (1, 2, 3):
            self.assertEqual(len(least_labels(crowded_net(2), [("a", 0)], most)), 150)
            with self.assertRaises(RoadError) as caught:
                least_labels(crowded_net(3), [("a", 0)], most)
            self.assertIs(caught.exception.__class__, TooMany)
        self.assertEqual(least_labels(crowded_net(3), [("a", 0)], 0), [("a", 0, 0, 0, None, -1)])
        self.assertEqual(len(least_labels(crowded_net(1), [("a", 0), ("h", 9)])), 150)
        for beginnings in [[("a", 0), ("h", 9), ("g", 9)], [("h", 9), ("g", 9), ("a", 0)]]:
            with self.assertRaises(TooMany):
                least_labels(crowded_net(1), beginnings)

    def test_the_plain_account_has_as_many(self):
        self.assertEqual(len(plain_least(crowded_net(2), [("a", 0)], 1)), 150)
        self.assertEqual(len(plain_least(crowded_net(3), [("a", 0)], 1)), 151)

    def test_many_that_are_not_least_are_not_refused(self):
        # All tickets end under way, so the later runs, and the dearer tickets, are worse.
        net = crowded_net(3, 5)
        self.assertEqual(len(all_labels(net, [("a", 0)], 1)), 151)
        found = least_labels(net, [("a", 0)])
        self.assertEqual(found, [("a", 0, 0, 0, None, -1)] + [
            (stop, come, 1, 100, None, -1) for stop, come in [("b", 20), ("c", 40), ("d", 60), ("e", 80), ("f", 109),
                                                              ("g", 100)]])

    def test_by_notices(self):
        notices = Notices(self.net)
        notices.out("k", 0)
        self.assertEqual(least_labels(self.net, [("a", 480)], 3, notices), [BEGIN])
        notices.back("k", 0)
        self.assertEqual(least_labels(self.net, [("a", 480)], 3, notices), least_labels(self.net, [("a", 480)]))
        notices.late("k", 0, 0, 7)
        self.assertIn(("b", 507, 1, 200, "city", 552), least_labels(self.net, [("a", 480)], 3, notices))
        self.assertEqual(least_labels(self.net, [("a", 480)], 3, None), least_labels(self.net, [("a", 480)]))

    def test_held_against_all_labels(self):
        for seed in range(80):
            draw = random.Random(seed)
            net = drawn_net(seed, draw.randint(2, 6), draw.randint(1, 10))
            notices = None if seed % 3 == 0 else drawn_notices(net, seed, [0, 1, 2], 5)
            first = draw.choice([0, 290, 300, 310, 330, 1390, 1740])
            beginnings = [(draw.choice(net.stops()), first + draw.choice([0, 5, 20, DAY, DAY + 1]))
                          for _ in range(draw.randint(1, 4))]
            wanted = plain_least(net, beginnings, seed % 4, notices)
            self.assertEqual(least_labels(net, beginnings, seed % 4, notices), wanted)


class OfItsOwn(LabelsCase):
    def test_nothing_that_is_handed_in_is_changed(self):
        notices = Notices(self.net)
        notices.late("k", 0, 0, 1)
        beginnings = [("b", 490), ("a", 480), ("a", 480)]
        before = (told_of(self.net), notices.told(), list(beginnings))
        least_labels(self.net, beginnings, 3, notices)
        follow(self.net, BEGIN, 1000, notices)
        self.assertEqual((told_of(self.net), notices.told(), beginnings), before)

    def test_what_is_told_may_be_changed(self):
        for asked in [lambda: follow(self.net, BEGIN, 1000), lambda: least_labels(self.net, [("a", 480)])]:
            kept = list(asked())
            asked().clear()
            self.assertEqual(asked(), kept)

    def test_the_same_of_beginnings_in_another_order(self):
        for seed in range(10):
            net = drawn_net(seed)
            beginnings = [(stop, 300 + at * 5) for at, stop in enumerate(net.stops())]
            self.assertEqual(least_labels(net, beginnings), least_labels(net, beginnings[::-1]))


if __name__ == "__main__":
    unittest.main()
