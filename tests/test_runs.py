import random
import unittest

from roadbook.net import Net
from roadbook.notices import Notices
from roadbook.rules import Each, Rule, Span, Week
from roadbook.runs import runs_between

from nets import full_net, told_of

DAY = 1440


def line_net():
    net = Net()
    for name in "abc":
        net.add_stop(name, 1, 0)
    net.add_rule("all", Rule())
    net.add_rule("week", Week(31))
    net.add_rule("never", Week(0))
    net.add_trip("slow", "all", [("a", 480, 485), ("b", 500, 505), ("c", 520, 525)])
    net.add_trip("work", "week", [("a", 600, 600), ("c", 630, 640)])
    net.add_trip("night", "all", [("c", 1430, 1435), ("b", 1450, 1455), ("a", 1470, 1475)])
    net.add_trip("ghost", "never", [("a", 0, 0), ("c", 1, 1)])
    return net


def named(runs):
    return [(trip, day) for trip, day, calls in runs]


def all_runs(net, notices, days):
    """Each run on some days, looked up one by one."""
    found = []
    for trip in net.trips():
        for day in days:
            calls = notices.moments(trip, day)
            if calls is not None:
                found.append((trip, day, calls))
    return found


class RunsCase(unittest.TestCase):
    def setUp(self):
        self.net = line_net()

    def between(self, begin, end, notices=None):
        return named(runs_between(self.net, begin, end, notices))


class WithoutNotices(RunsCase):
    def test_a_day(self):
        runs = runs_between(self.net, DAY, 2 * DAY - 1)
        self.assertEqual(named(runs), [("night", 0), ("slow", 1), ("work", 1), ("night", 1)])
        self.assertEqual(runs[1], ("slow", 1, [("a", 1920, 1925), ("b", 1940, 1945), ("c", 1960, 1965)]))
        self.assertIsInstance(runs, list)
        self.assertIsInstance(runs[1], tuple)
        self.assertIsInstance(runs[1][2], list)
        self.assertIsInstance(runs[1][2][0], tuple)

    def test_days_on_which_they_run(self):
        self.assertEqual(self.between(5 * DAY + 500, 5 * DAY + 1000), [("slow", 5)])
        self.assertEqual(self.between(7 * DAY + 500, 7 * DAY + 1000), [("slow", 7), ("work", 7)])

    def test_a_window_of_no_length(self):
        for moment, wanted in [(485, True), (484, False), (486, False), (505, True), (504, False), (506, False)]:
            self.assertEqual(self.between(moment, moment), [("slow", 0)] if wanted else [])

    def test_windows_that_begin_or_end_at_a_leaving(self):
        self.assertEqual(self.between(506, 599), [])
        self.assertEqual(self.between(505, 599), [("slow", 0)])
        self.assertEqual(self.between(504, 599), [("slow", 0)])
        self.assertEqual(self.between(506, 600), [("work", 0)])
        self.assertEqual(self.between(506, 601), [("work", 0)])
        self.assertEqual(self.between(0, 484), [])
        self.assertEqual(self.between(0, 485), [("slow", 0)])
        self.assertEqual(self.between(486, 504), [])
        self.assertEqual(self.between(486, 505), [("slow", 0)])

    def test_not_by_arriving(self):
        for moment in [480, 500, 520, 630]:
            self.assertEqual(self.between(moment, moment), [])

    def test_not_by_the_leaving_of_the_last_call(self):
        for moment in [525, 640, DAY + 35]:
            self.assertEqual(self.between(moment, moment), [])
        self.assertEqual(self.between(601, 1434), [])

    def test_behind_midnight(self):
        self.assertEqual(self.between(1435, 1435), [("night", 0)])
        self.assertEqual(self.between(1436, 1454), [])
        self.assertEqual(self.between(1455, 1455), [("night", 0)])
        runs = runs_between(self.net, 1436, 1500)
        self.assertEqual(runs, [("night", 0, [("c", 1430, 1435), ("b", 1450, 1455), ("a", 1470, 1475)])])
        self.assertEqual(self.between(2 * DAY + 15, 2 * DAY + 15), [("night", 1)])

    def test_late_in_the_second_day(self):
        self.net.add_trip("long", "all", [("a", 0, 0), ("b", 2800, 2878), ("c", 2879, 2879)])
        moment = 4 * DAY + 2878
        self.assertEqual(self.between(moment, moment), [("long", 4)])
        self.assertEqual(self.between(moment - 1, moment - 1), [])
        self.assertEqual(self.between(moment + 1, moment + 1), [])
        self.assertEqual(self.between(5 * DAY, 5 * DAY), [("long", 5)])

    def test_the_first_day(self):
        self.net.add_trip("first", "all", [("a", 0, 0), ("b", 1, 1)])
        self.assertEqual(self.between(0, 0), [("first", 0)])
        self.assertEqual(self.between(0, 484), [("first", 0)])

    def test_the_last_days(self):
        self.assertEqual(self.between(9999 * DAY + 1, 14500000), [
            ("night", 9998), ("slow", 9999), ("work", 9999), ("night", 9999)])
        self.assertEqual(self.between(14399999, 14500000), [("night", 9999)])
        runs = runs_between(self.net, 14399999, 14500000)
        self.assertEqual(runs[0][2], [("c", 14399990, 14399995), ("b", 14400010, 14400015), ("a", 14400030, 14400035)])
        self.assertEqual(self.between(14399999, 14400014), [])
        self.assertEqual(self.between(14399999, 14400015), [("night", 9999)])

    def test_an_end_ahead_of_the_begin(self):
        self.assertEqual(self.between(600, 485), [])

    def test_a_run_with_several_leavings_is_told_once(self):
        self.assertEqual(self.between(480, 530), [("slow", 0)])

    def test_the_order(self):
        net = Net()
        for name in "ab":
            net.add_stop(name, 1, 0)
        net.add_rule("all", Rule())
        # The order is not that of arriving, and not that in which the trips came.
        net.add_trip("m", "all", [("a", 100, 200), ("b", 201, 201)])
        net.add_trip("z", "all", [("a", 150, 150), ("b", 201, 201)])
        net.add_trip("c", "all", [("a", 200, 200), ("b", 300, 300)])
        net.add_trip("y", "all", [("a", 1640, 1640), ("b", 1641, 1641)])
        self.assertEqual(named(runs_between(net, 0, 1700)), [
            ("z", 0), ("c", 0), ("m", 0), ("z", 1), ("c", 1), ("m", 1), ("y", 0)])

    def test_the_order_by_the_first_leaving_and_by_days(self):
        net = Net()
        for name in "ab":
            net.add_stop(name, 1, 0)
        net.add_rule("all", Rule())
        net.add_trip("far", "all", [("b", 10, 10), ("a", 1600, 1600), ("b", 1601, 1601)])
        net.add_trip("near", "all", [("a", 1441, 1450), ("b", 1601, 1601)])
        self.assertEqual(named(runs_between(net, 1450, 1600)), [("far", 0), ("far", 1), ("near", 0)])

    def test_a_net_of_no_trips(self):
        self.assertEqual(runs_between(Net(), 0, 14500000), [])

    def test_all_days(self):
        runs = runs_between(self.net, 0, 14500000)
        self.assertEqual(len([run for run in runs if run[0] == "slow"]), 10000)
        self.assertEqual(len([run for run in runs if run[0] == "night"]), 10000)
        self.assertEqual([run[1] for run in runs if run[0] == "work"], [day for day in range(10000) if day % 7 < 5])


class WithNotices(RunsCase):
    def setUp(self):
        self.net = line_net()
        self.notices = Notices(self.net)

    def test_none_told(self):
        for begin, end in [(0, 5000), (485, 485), (9999 * DAY, 14500000)]:
            wanted = runs_between(self.net, begin, end)
            self.assertEqual(runs_between(self.net, begin, end, None), wanted)
            self.assertEqual(runs_between(self.net, begin, end, self.notices), wanted)
            self.assertEqual(runs_between(self.net, begin, end, notices=self.notices), wanted)

    def test_late(self):
        self.notices.late("slow", 0, 1, 30)
        runs = runs_between(self.net, 0, 599, self.notices)
        self.assertEqual(runs, [("slow", 0, [("a", 480, 485), ("b", 530, 535), ("c", 550, 555)])])
        self.assertEqual(self.between(505, 505, self.notices), [])
        self.assertEqual(self.between(535, 535, self.notices), [("slow", 0)])
        self.assertEqual(self.between(536, 599, self.notices), [])
        self.assertEqual(self.between(486, 534, self.notices), [])
        self.assertEqual(self.between(505, 505), [("slow", 0)])

    def test_late_into_another_place(self):
        self.notices.late("slow", 0, 0, 300)
        self.assertEqual(self.between(0, 1000, self.notices), [("work", 0), ("slow", 0)])
        self.assertEqual(self.between(785, 785, self.notices), [("slow", 0)])

    def test_late_just_to_another_ones_leaving(self):
        self.notices.late("work", 0, 0, 185)
        self.notices.late("slow", 0, 0, 300)
        self.assertEqual(self.between(700, 1000, self.notices), [("slow", 0), ("work", 0)])

    def test_out_and_back(self):
        self.notices.out("slow", 1)
        self.assertEqual(self.between(DAY + 100, DAY + 700, self.notices), [("work", 1)])
        self.assertEqual(self.between(100, 700, self.notices), [("slow", 0), ("work", 0)])
        self.notices.back("slow", 1)
        self.assertEqual(self.between(DAY + 100, DAY + 700, self.notices), [("slow", 1), ("work", 1)])

    def test_as_late_as_can_be(self):
        self.net.add_trip("long", "all", [("a", 0, 0), ("b", 2800, 2878), ("c", 2879, 2879)])
        notices = Notices(self.net)
        notices.late("long", 4, 1, 300)
        notices.late("long", 9999, 1, 300)
        moment = 4 * DAY + 3178
        self.assertEqual(self.between(moment, moment, notices), [("long", 4)])
        self.assertEqual(self.between(moment - 1, moment - 1, notices), [])
        self.assertEqual(self.between(moment + 1, moment + 1, notices), [])
        self.assertEqual(self.between(14399999, 14401737, notices), [("night", 9999)])
        self.assertEqual(self.between(14399999, 14401738, notices), [("long", 9999), ("night", 9999)])

    def test_notices_and_net_are_not_changed(self):
        self.notices.late("slow", 0, 1, 30)
        before = (told_of(self.net), self.notices.told())
        told = runs_between(self.net, 0, 5000, self.notices)
        kept = [(trip, day, list(calls)) for trip, day, calls in told]
        told[0][2].clear()
        told.clear()
        self.assertEqual((told_of(self.net), self.notices.told()), before)
        told = runs_between(self.net, 0, 5000, self.notices)
        self.assertEqual(told, kept)
        self.notices.late("slow", 0, 0, 60)
        self.notices.out("night", 0)
        self.assertEqual(told, kept)


class AgainstAPlainSearch(unittest.TestCase):
    def test_many_windows(self):
        net = full_net()
        notices = Notices(net)
        dice = random.Random(8)
        days = range(0, 24)
        for trip, day, calls in all_runs(net, notices, days):
            if dice.random() < 0.3:
                notices.late(trip, day, dice.randrange(len(calls)), dice.randint(0, 300))
            elif dice.random() < 0.2:
                notices.out(trip, day)
        for told in [None, notices]:
            runs = all_runs(net, told or Notices(net), days)
            for _ in range(300):
                begin = dice.randint(0, 20 * DAY)
                end = begin + dice.choice([0, 1, 60, 1440, 3000])
                wanted = [run for run in runs if any(begin <= call[2] <= end for call in run[2][:-1])]
                wanted.sort(key=lambda run: (run[2][0][2], run[0], run[1]))
                self.assertEqual(runs_between(net, begin, end, told), wanted)

    def test_rules_of_days(self):
        net = line_net()
        net.add_rule("some", Span(3, 30, Each(9, [0, 4])))
        net.add_trip("some", "some", [("a", 10, 10), ("b", 20, 20)])
        found = [day for trip, day in named(runs_between(net, 0, 60 * DAY)) if trip == "some"]
        self.assertEqual(found, [4, 9, 13, 18, 22, 27])


if __name__ == "__main__":
    unittest.main()
