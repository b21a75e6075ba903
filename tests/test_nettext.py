import random
import unittest

from roadbook.errors import BadRow
from roadbook.net import Net
from roadbook.reader import net_of
from roadbook.rules import Both, But, Each, Either, Rule, Span, Week
from roadbook.writer import net_text

from kinds import NO_TEXTS
from nets import full_net, small_net, told_of

SMALL = """stop a 1 5
stop b 2 0
stop c 3 30
walk a b 7
days all always
days week week 1111100
ticket short 200 60 12
ticket wide 500 120 123
trip slow all a 08:00 08:00 b 08:20 08:25 c 08:50 08:50
trip night week c 23:50 23:55 a 24:10 24:15
"""

# Rows ahead of each one that is refused below.
HEAD = """stop a 1 5
stop b 2 0
walk a b 7
days all always
ticket short 200 60 12
trip slow all a 08:00 08:00 b 08:20 08:25
"""


def any_rule(dice, deep):
    kind = dice.randrange(7 if deep > 1 else 3)
    if kind == 0:
        return Rule()
    if kind == 1:
        return Week(dice.randrange(128))
    if kind == 2:
        length = dice.randint(1, 28)
        return Each(length, sorted(dice.sample(range(length), dice.randint(1, min(12, length)))))
    if kind == 3:
        return Span(*sorted([dice.randrange(10000), dice.randrange(10000)]), any_rule(dice, deep - 1))
    if kind == 4:
        return But(sorted(dice.sample(range(10000), dice.randint(1, 12))), any_rule(dice, deep - 1))
    return [Either, Both][kind - 5](any_rule(dice, deep - 1), any_rule(dice, deep - 1))


def any_net(dice):
    def fresh(taken):
        while True:
            name = "".join(dice.choice("abz") for _ in range(dice.randint(1, 8)))
            if name not in taken:
                return name

    net = Net()
    for _ in range(dice.randint(2, 8)):
        net.add_stop(fresh(net.stops()), dice.randint(1, 6), dice.randint(0, 30))
    pairs = [(one, other) for one in net.stops() for other in net.stops() if one < other]
    for one, other in dice.sample(pairs, min(len(pairs), dice.randint(0, 12))):
        net.add_walk(*dice.sample([one, other], 2), dice.randint(1, 60))
    for _ in range(dice.randint(1, 6)):
        net.add_rule(fresh(net.rules()), any_rule(dice, 3))
    for _ in range(dice.randint(0, 3)):
        zones = sorted(dice.sample(range(1, 7), dice.randint(1, 6)))
        net.add_ticket(fresh(net.tickets()), dice.randint(0, 10000), dice.randint(1, 1440), zones)
    for _ in range(dice.randint(0, 10)):
        count = dice.randint(2, 6)
        minutes = sorted(dice.sample(range(2880), 2 * count))
        calls, stop = [], None
        for at in range(count):
            stop = dice.choice([name for name in net.stops() if name != stop])
            calls.append((stop, minutes[2 * at], minutes[2 * at + 1]))
        net.add_trip(fresh(net.trips()), dice.choice(net.rules()), calls)
    return net


class Written(unittest.TestCase):
    def test_an_empty_net(self):
        self.assertEqual(net_text(Net()), "")

    def test_a_small_net(self):
        self.assertEqual(net_text(small_net()), SMALL)

    def test_the_order_of_what_came_mixed(self):
        net = Net()
        net.add_ticket("t", 0, 1, [6])
        net.add_rule("r", But([5, 6], Rule()))
        net.add_stop("b", 6, 0)
        net.add_rule("q", Each(14, [0, 3]))
        net.add_stop("a", 1, 30)
        net.add_trip("z", "r", [("a", 0, 0), ("b", 2879, 2879)])
        net.add_walk("b", "a", 60)
        net.add_trip("y", "q", [("b", 59, 60), ("a", 61, 1440)])
        self.assertEqual(net_text(net), (
            "stop b 6 0\nstop a 1 30\nwalk b a 60\ndays r but 5,6 always\ndays q each 14 0,3\nticket t 0 1 6\n"
            "trip z r a 00:00 00:00 b 47:59 47:59\ntrip y q b 00:59 01:00 a 01:01 24:00\n"))

    def test_a_net_is_not_changed(self):
        net = full_net()
        before = told_of(net)
        self.assertEqual(net_text(net), net_text(net))
        self.assertEqual(told_of(net), before)


class ReadBack(unittest.TestCase):
    def read_back(self, net):
        text = net_text(net)
        read = net_of(text)
        self.assertEqual(told_of(read), told_of(net))
        self.assertEqual(net_text(read), text)
        for name in net.rules():
            self.assertEqual([read.rule(name).runs(day) for day in range(60)],
                             [net.rule(name).runs(day) for day in range(60)])

    def test_nets(self):
        for net in [Net(), small_net(), full_net()]:
            self.read_back(net)

    def test_many_nets(self):
        dice = random.Random(6)
        for _ in range(150):
            self.read_back(any_net(dice))

    def test_a_net_that_is_read_is_like_any_other(self):
        net = net_of(SMALL)
        self.assertIsInstance(net, Net)
        net.add_stop("d", 1, 1)
        self.assertEqual(net_text(net), SMALL.replace("walk a b", "stop d 1 1\nwalk a b"))
        self.assertEqual(net_of(SMALL).stops(), ["a", "b", "c"])


class ReadOtherwise(unittest.TestCase):
    def reads(self, text, wanted=SMALL):
        self.assertEqual(net_text(net_of(text)), wanted)

    def test_nothing(self):
        for text in ["", "\n", "\n\n\n", " ", "   \n  ", "#", "# stop a 1 5", " # \n#\n", "##\n", "#\n\n #"]:
            self.reads(text, "")

    def test_the_last_line_end_left_out(self):
        self.reads(SMALL[:-1])
        self.reads("stop a 1 5", "stop a 1 5\n")

    def test_blanks_at_both_ends(self):
        self.reads("".join("   " + row + " \n" for row in SMALL.split("\n")))
        self.reads(SMALL.replace("\n", "  \n"))
        self.reads(SMALL.replace("\n", "\n "))

    def test_remarks(self):
        self.reads(SMALL.replace("\n", "# a remark\n"))
        self.reads(SMALL.replace("\n", "   #\n"))
        self.reads("# first\n" + SMALL.replace("\n", " # one # two  three\n  # stop a 1 5\n") + "# last")
        self.reads(SMALL.replace("\n", "# stop  x\n"))

    def test_rows_of_nothing(self):
        self.reads("\n\n" + SMALL.replace("\n", "\n\n  \n#\n") + "\n\n")

    def test_rows_in_another_order(self):
        rows = SMALL.split("\n")[:-1]
        for order in [[4, 0, 5, 1, 6, 3, 7, 2, 8, 9], [6, 7, 4, 5, 0, 1, 2, 8, 9, 3], [0, 1, 4, 2, 8, 3, 5, 6, 9, 7]]:
            self.assertEqual(sorted(order), list(range(10)))
            self.reads("\n".join(rows[at] for at in order))

    def test_each_in_the_order_in_which_it_came(self):
        self.reads("stop b 1 0\nticket t 1 1 1\nstop a 2 0\nticket s 1 1 1",
                   "stop b 1 0\nstop a 2 0\nticket t 1 1 1\nticket s 1 1 1\n")

    def test_all_zones(self):
        self.assertEqual(net_of("ticket all 1 1 123456").ticket("all"), (1, 1, [1, 2, 3, 4, 5, 6]))
        self.assertEqual(net_of("ticket some 1 1 246").ticket("some"), (1, 1, [2, 4, 6]))

    def test_names_like_the_words_of_rows(self):
        text = "stop stop 1 0\nstop walk 1 0\nwalk stop walk 1\ndays days always\ndays always always\n"
        text = text + "ticket ticket 0 1 1\ntrip trip days stop 00:00 00:00 walk 00:01 00:01\n"
        self.reads(text, text)

    def test_five_figures(self):
        self.assertEqual(net_of("ticket t 10000 1440 1").ticket("t"), (10000, 1440, [1]))


class RefusedCase(unittest.TestCase):
    def refused(self, text, row, word):
        with self.assertRaises(BadRow) as caught:
            net_of(text)
        self.assertEqual((caught.exception.row, caught.exception.word), (row, word))

    def behind(self, rows, word, head=HEAD):
        count = head.count("\n")
        for row in rows:
            with self.subTest(row):
                self.refused(head + row, count + 1, word)
                self.refused(head + row + "\n", count + 1, word)
                self.refused(head + "\n# remark\n  \n  " + row + "  # remark\nstop x\n", count + 4, word)


class Refused(RefusedCase):
    def test_no_text(self):
        for wrong in NO_TEXTS + [[SMALL], (SMALL,), SMALL.encode(), SMALL.split("\n"), Net()]:
            self.refused(wrong, 0, "text")

    def test_row(self):
        self.behind([
            "x", "Stop c 1 5", "stops c 1 5", "STOP c 1 5", "--", "net", "0", "zone a 1", "rule all always",
            "day x always",
            "stop", "stop c", "stop c 1", "stop c 1 5 0", "stop c 1 5 x y", "stop  c 1 5", "stop c  1 5", "stop c 1  5",
            "stop#c 1 5", "stop c 1 # 5", "stopc 1 5", "stop,c,1,5",
            "walk", "walk a", "walk a b", "walk a b 7 7", "walk a  b 7", "walk a b  7",
            "days", "days new", "days  new always", "days new  always", "days new # always",
            "days new either always  always",
            "ticket", "ticket new", "ticket new 1", "ticket new 1 1", "ticket new 1 1 1 2", "ticket new 1 1  12",
            "ticket  new 1 1 1", "ticket new 1 1 1 2 3",
            "trip", "trip new", "trip new all a", "trip new all a 08:00", "trip new all a 08:00 08:00 b",
            "trip new all a 08:00 08:00 b 08:20", "trip new all  a 08:00 08:00", "trip  new all a 08:00 08:00",
            "trip new all a 08:00 08:00  b 08:20 08:25", "trip new all a 08:00 08:00 b 08:20 08:25 a",
            "trip new  all",
        ], "row")

    def test_number_of_figures(self):
        for wrong in ["x", "01", "00", "-1", "+1", "1.0", "1,2", "1_0", "100000", "000001", "1x", "one", "08:00", "-"]:
            self.behind([
                "stop new " + wrong + " 5", "stop new 1 " + wrong, "walk a b " + wrong,
                "ticket new " + wrong + " 1 1", "ticket new 1 " + wrong + " 1"], "number")
        for wrong in ["x", "1x", "1,2", "-1", "1.2", "+12", "12-", "[12]", "1_2", "one"]:
            self.behind(["ticket new 1 1 " + wrong], "number")

    def test_clock(self):
        for wrong in ["48:00", "08:60", "8:00", "0800", "08:0", "x", "480", "08-00", "008:00", "08:00:00", "-8:00"]:
            self.behind([
                "trip new all a " + wrong + " 08:00 b 08:20 08:25", "trip new all a 08:00 " + wrong + " b 08:20 08:25",
                "trip new all a 08:00 08:00 b " + wrong + " 08:25",
                "trip new all a 08:00 08:00 b 08:20 " + wrong], "clock")

    def test_days(self):
        self.behind([
            "days new never", "days new always always", "days new week", "days new week 111", "days new span 10 20",
            "days new span 20 10 always", "days new each 14 3,0", "days new either always", "days new but 5,6",
            "days new 1", "days new " + "but 5 " * 8 + "always", "days new " + "either always " * 7 + "span 0 1 always",
            "days new each 014 0", "days new Always",
        ], "days")

    def test_a_rule_as_deep_and_heavy_as_may_be(self):
        text = "days new " + "but 5 " * 7 + "always\ndays more " + "either always " * 7 + "always\n"
        self.assertEqual(net_text(net_of(text)), text)

    def test_name(self):
        for wrong in ["A", "a1", "abcdefghi", "a-b", "1", "a:", "a,b", "~"]:
            self.behind([
                "stop " + wrong + " 1 5", "days " + wrong + " always", "ticket " + wrong + " 1 1 1",
                "trip " + wrong + " all a 08:00 08:00 b 08:20 08:25"], "name")

    def test_twice(self):
        self.behind([
            "stop a 1 5", "walk a b 7", "walk b a 8", "walk a a 1", "days all always", "ticket short 200 60 12",
            "trip slow all a 08:00 08:00 b 08:20 08:25"], "twice")

    def test_stop(self):
        self.behind([
            "walk a c 5", "walk c a 5", "walk c c 5", "walk A b 5", "trip new all a 08:00 08:00 c 08:20 08:25",
            "trip new all c 08:00 08:00 b 08:20 08:25"], "stop")

    def test_rule(self):
        self.behind([
            "trip new none a 08:00 08:00 b 08:20 08:25", "trip new a a 08:00 08:00 b 08:20 08:25",
            "trip new All a 08:00 08:00 b 08:20 08:25"], "rule")

    def test_numbers_out_of_bounds(self):
        self.behind([
            "stop new 0 5", "stop new 7 5", "stop new 1 31", "stop new 99999 5", "ticket new 10001 1 1",
            "ticket new 1 0 1", "ticket new 1 1441 1", "ticket new 1 1 0", "ticket new 1 1 7", "ticket new 1 1 21",
            "ticket new 1 1 11", "ticket new 1 1 01", "ticket new 1 1 1234567"], "number")
        self.behind(["walk b c 0", "walk b c 61"], "number", HEAD + "stop c 1 1\n")

    def test_calls(self):
        call = " a 08:00 08:00"
        self.behind([
            "trip new all", "trip new all" + call, "trip new all" + call + " a 08:20 08:25",
            "trip new all" + call + " b 08:00 08:25", "trip new all" + call + " b 08:20 08:19",
            "trip new all" + "".join(" %s 0%d:00 0%d:00" % ("ab"[at % 2], at, at) for at in range(7)),
        ], "calls")

    def test_many(self):
        self.behind([
            "stop i 1 0", "walk a h 5", "days rg always", "ticket more 0 1 1",
            "trip tk ra a 08:00 08:00 b 08:20 08:25"], "many", net_text(full_net()))

    def test_what_a_row_names_stands_ahead(self):
        self.refused("walk a b 7\nstop a 1 5\nstop b 2 0\n", 1, "stop")
        self.refused("stop a 1 5\nwalk a b 7\nstop b 2 0\n", 2, "stop")
        self.refused("stop a 1 5\nstop b 2 0\ntrip t r a 00:00 00:00 b 00:01 00:01\ndays r always", 3, "rule")
        self.refused("stop a 1 5\ndays r always\n\ntrip t r a 00:00 00:00 b 00:01 00:01\nstop b 1 1", 4, "stop")

    def test_the_first_row_that_is_refused(self):
        self.refused("\n\nstop a 9 0\nx\n", 3, "number")
        self.refused("# 1\nx\nstop a 9 0", 2, "row")
        self.refused("stop a 1 0\nstop a 1 0\nstop A 1 0", 2, "twice")


class TwoThingsWrong(RefusedCase):
    def test_row_ahead_of_all(self):
        self.behind(["stop A x", "stop  A x y", "walk  zz zz x", "ticket A x y z  z", "trip A none zz 99:99",
                     "days A  never", "x  y"], "row")

    def test_number_ahead_of_what_the_net_refuses(self):
        self.behind(["stop A x 5", "stop a 1 x", "stop a 9 x", "walk zz zz x", "walk a b 07", "ticket A x 1 1",
                     "ticket short 1 1 x", "ticket A 99999 1 x", "ticket A 1 1 1,2", "stop A 100000 1"], "number")

    def test_clock_ahead_of_what_the_net_refuses(self):
        self.behind(["trip A none zz 99:99 08:00", "trip slow all zz 08:00 x",
                     "trip new none a 08:00 8:00 zz 08:00 07:00", "trip A none a 09:00 08:00 zz 08:00 48:00"], "clock")

    def test_days_ahead_of_what_the_net_refuses(self):
        self.behind(["days A never", "days all never", "days A week 1"], "days")

    def test_name_ahead_of_numbers_and_rules(self):
        self.behind(["stop A 0 5", "stop A 1 31", "ticket A 99999 1 1", "ticket A 1 1 7", "ticket A 1 1 01",
                     "trip A none", "ticket A 1 1 1234567", "trip A none zz 09:00 08:00"], "name")

    def test_twice_ahead_of_numbers_and_rules(self):
        self.behind(["stop a 0 5", "walk a b 0", "walk b b 99", "ticket short 1 1 7", "trip slow none",
                     "trip slow none zz 09:00 08:00"], "twice")

    def test_stop_ahead_of_numbers(self):
        self.behind(["walk zz a 0", "walk a zz 61", "trip new all a 08:00 08:00 zz 08:00 07:00",
                     "trip new all zz 09:00 08:00 b 08:00 08:25"], "stop")

    def test_rule_ahead_of_calls(self):
        self.behind(["trip new none", "trip new none a 08:00 08:00",
                     "trip new none zz 09:00 08:00 b 08:00 08:00"], "rule")

    def test_calls_as_the_net_goes_through_them(self):
        self.behind(["trip new all zz 08:00 08:00", "trip new all a 09:00 08:00 zz 10:00 10:00",
                     "trip new all a 08:00 08:00 b 08:00 08:25 zz 10:00 10:00"], "calls")

    def test_many_comes_last(self):
        full = net_text(full_net())
        self.behind(["stop i 0 0", "walk a h 0", "ticket more 0 0 1"], "number", full)
        self.behind(["stop a 1 0", "walk a b 5", "days ra always", "ticket day 0 1 1"], "twice", full)
        self.behind(["trip tk ra a 08:00 08:00"], "calls", full)
        self.behind(["trip tk ra a 08:00 08:00 zz 09:00 09:00"], "stop", full)


if __name__ == "__main__":
    unittest.main()
