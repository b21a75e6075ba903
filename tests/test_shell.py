import unittest

from roadbook.desk import Desk
from roadbook.fronts import front
from roadbook.reader import net_of
from roadbook.shell import answered, played

from kinds import NO_TEXTS
from nets import crowded_net

LINES = """
stop a 1 5
stop b 1 4
stop c 1 0
stop d 1 7
walk a b 10
days all always
days odd each 2 1
ticket city 200 120 1
trip k all a 08:00 08:05 b 08:20 08:25 c 08:40 08:50 d 09:00 09:02
trip l all c 09:10 09:10 a 09:30 09:30
trip odd odd a 10:00 10:00 c 10:30 10:30
"""

GOOD = [
    "now 0 07:00", "enter zoe a d 0 08:00 0", "late k 0 0 5", "out k 1", "back k 1", "where ann", "plans a d 0 08:00"]


class ShellCase(unittest.TestCase):
    def setUp(self):
        self.desk = Desk(net_of(LINES))
        self.tell("enter ann a d 0 08:00 0", "ann comes 0 09:00 rides 1 price 200")

    def tell(self, line, *wanted):
        found = answered(self.desk, line)
        self.assertIsInstance(found, list)
        self.assertEqual(found, list(wanted), line)

    def refused(self, line, words):
        """Refused so, and nothing has changed behind it."""
        before = self.all_told()
        self.tell(line, words)
        self.assertEqual(self.all_told(), before)

    def all_told(self):
        names = self.desk.names()
        return (self.desk.now(), [(name, self.desk.plan(name)) for name in names], self.desk.notices.told())


class Lines(ShellCase):
    def test_now(self):
        for line in ["now 0 00:00", "now 0 07:59", "now 0 07:59", "now 1 00:00", "now 9999 23:59"]:
            self.tell(line, line)
        self.assertEqual(self.desk.now(), 14399999)
        self.refused("now 9999 23:58", "too late")

    def test_enter(self):
        self.tell("enter zoe a c 0 08:05 0", "zoe comes 0 08:40 rides 1 price 200")
        self.assertEqual(self.desk.plan("zoe"), front(self.desk.net, "a", "c", 485)[0][1])
        self.tell("enter here a a 3 00:00 0", "here comes 3 00:00 rides 0 price 0")
        self.assertEqual(self.desk.plan("here"), ("a", 4320, []))
        self.tell("enter foot b a 12 23:55 0", "foot comes 13 00:05 rides 0 price 0")
        self.assertEqual(self.desk.names(), ["ann", "zoe", "here", "foot"])

    def test_enter_by_the_number(self):
        self.desk = Desk(net_of(LINES.replace("walk a b 10", "walk a b 30")))
        found = front(self.desk.net, "a", "b", 480)
        self.assertEqual([worth for worth, plan in found], [(500, 1, 200), (510, 0, 0)])
        self.tell("enter zoe a b 0 08:00 1", "zoe comes 0 08:30 rides 0 price 0")
        self.assertEqual(self.desk.plan("zoe"), found[1][1])
        self.tell("enter ann a b 0 08:00 0", "ann comes 0 08:20 rides 1 price 200")
        self.assertEqual(self.desk.plan("ann"), found[0][1])
        self.refused("enter bob a b 0 08:00 2", "no plan")

    def test_enter_by_the_notices_told_so_far(self):
        self.tell("late k 0 2 15", "nobody")
        self.tell("enter zoe a d 0 08:00 0", "zoe comes 0 09:15 rides 1 price 200")

    def test_plans(self):
        self.tell("plans a d 0 08:00", "0 09:00 1 200")
        self.tell("plans a b 0 08:00", "0 08:10 0 0")
        self.tell("plans a a 7 12:34", "7 12:34 0 0")
        self.tell("plans d a 0 08:00", "none")
        self.tell("plans c d 0 20:00", "1 09:00 1 200")
        self.tell("out k 0", "broken ann")
        self.tell("plans a d 0 08:00", "none")
        self.desk = Desk(net_of(LINES.replace("walk a b 10", "walk a b 30")))
        self.tell("plans a b 0 08:00", "0 08:20 1 200", "0 08:30 0 0")

    def test_three_rides_at_most(self):
        rows = "days all always\nticket t 1 600 1\n" + "".join(f"stop {name} 1 0\n" for name in "abcde")
        rows = rows + "".join(f"trip {one} all {one} 0{at}:00 0{at}:00 {other} 0{at}:30 0{at}:30\n"
                              for at, (one, other) in enumerate(zip("abcd", "bcde")))
        self.desk = Desk(net_of(rows))
        self.tell("plans a d 0 00:00", "0 02:30 3 1")
        self.tell("enter zoe a d 0 00:00 0", "zoe comes 0 02:30 rides 3 price 1")
        self.tell("plans a e 0 00:00", "none")
        self.refused("enter bob a e 0 00:00 0", "no plan")

    def test_notices(self):
        self.tell("late k 0 0 5", "nobody")
        self.tell("enter zoe a a 0 08:00 0", "zoe comes 0 08:00 rides 0 price 0")
        self.tell("enter bob a d 0 08:00 0", "bob comes 0 09:05 rides 1 price 200")
        self.tell("out k 0", "broken ann bob")
        self.tell("back k 0", "mended ann bob")
        self.tell("out k 1", "nobody")
        self.tell("back k 1", "nobody")

    def test_broken_and_mended_at_once(self):
        self.tell("late l 0 0 10", "nobody")
        self.tell("enter bob c a 0 09:15 0", "bob comes 0 09:40 rides 1 price 200")
        self.tell("late l 0 0 0", "broken bob")
        ride = ("ride", "l", 0, 0, 1, None)
        self.desk.enter("eve", ("a", 480, [("ride", "k", 0, 0, 2, "city"), ride]))
        self.desk.enter("eva", ("a", 480, [("ride", "k", 0, 0, 2, "city"), ride]))
        self.tell("late l 0 0 55", "broken eve eva", "mended bob")
        self.tell("back l 0", "broken bob", "mended eve eva")

    def test_where(self):
        self.tell("where ann", "at a")
        self.tell("enter zoe a b 0 08:00 0", "zoe comes 0 08:10 rides 0 price 0")
        for line, ann, zoe in [
                ("now 0 08:00", None, "walking a b"), ("now 0 08:09", None, "walking a b"),
                ("now 0 08:10", None, "there"), ("now 0 09:00", "there", "there")]:
            self.tell(line, line)
            self.tell("where zoe", zoe)
            if ann is not None:
                self.tell("where ann", ann)

    def test_where_on_a_run(self):
        self.desk.enter("bob", ("a", 1900, [("ride", "k", 1, 0, 3, "city")]))
        for line, wanted in [
                ("now 1 08:04", "at a"), ("now 1 08:05", "on k 1 0"), ("now 1 08:25", "on k 1 1"),
                ("now 1 08:50", "on k 1 2"), ("now 1 09:00", "there")]:
            self.tell(line, line)
            self.tell("where bob", wanted)


class BadLines(ShellCase):
    def test_good_ones(self):
        for line in GOOD:
            self.assertNotEqual(answered(self.desk, line), ["bad line"])

    def test_no_text(self):
        for wrong in NO_TEXTS + [["now", "0", "07:00"], ("now 0 07:00",), b"now 0 07:00"]:
            self.refused(wrong, "bad line")

    def test_no_such_line(self):
        for line in ["", " ", "  ", "x", "help", "Now 0 07:00", "NOW 0 07:00", "at 0 07:00", "--", "# now 0 07:00",
                     "nows 0 07:00", "plan a d 0 08:00", "take ann 0", "again ann", "names", "wait 0 07:00"]:
            self.refused(line, "bad line")

    def test_a_word_left_out(self):
        for line in GOOD:
            words = line.split(" ")
            for at in range(len(words)):
                self.refused(" ".join(words[:at] + words[at + 1:]), "bad line")

    def test_a_word_put_in(self):
        for line in GOOD:
            words = line.split(" ")
            for at in range(len(words) + 1):
                for word in ["0", "a", "08:00", ""]:
                    self.refused(" ".join(words[:at] + [word] + words[at:]), "bad line")

    def test_a_word_of_no_sign(self):
        for line in GOOD:
            words = line.split(" ")
            for at in range(len(words)):
                self.refused(" ".join(words[:at] + [""] + words[at + 1:]), "bad line")

    def test_words_exchanged(self):
        for line in ["now 07:00 0", "enter zoe a d 08:00 0 0", "enter zoe a d 0 0 08:00", "enter zoe 0 08:00 a d 0",
                     "late 0 k 0 5", "out 1 k", "back 1 k", "plans a d 08:00 0", "plans 0 08:00 a d", "0 now 07:00"]:
            self.refused(line, "bad line")

    def test_blanks(self):
        for line in GOOD:
            for wrong in [" " + line, line + " ", line.replace(" ", "  ", 1), line.replace(" ", "\t", 1),
                          line.replace(" ", "")]:
                self.refused(wrong, "bad line")

    def test_numbers(self):
        for word in ["00", "01", "007", "-1", "+1", "1.0", "1e1", "x", "123456", "100000", "0x1", "1,0", "1_0"]:
            for line in ["now {} 07:00", "enter zoe a d {} 08:00 0", "enter zoe a d 0 08:00 {}", "late k {} 0 5",
                         "late k 0 {} 5", "late k 0 0 {}", "out k {}", "back k {}", "plans a d {} 08:00"]:
                self.refused(line.format(word), "bad line")

    def test_clocks(self):
        for word in ["48:00", "1:30", "99:99", "12:60", "0800", "8", "08:0", "008:00", "08.00", "-8:00", "08:000", "x"]:
            for line in ["now 0 {}", "enter zoe a d 0 {} 0", "plans a d 0 {}"]:
                self.refused(line.format(word), "bad line")

    def test_the_form_goes_ahead(self):
        for line in ["now 10000 48:00", "enter ann zz zz 10000 24:00 x", "enter ann zz zz 10000 1:30 0",
                     "enter ann zz zz 010 24:00 0", "late zz 10000 9 x", "late zz x 9 999", "out zz x",
                     "back zz 00", "plans zz zz 10000 48:00", "plans zz zz x 24:00"]:
            self.refused(line, "bad line")


class Refusals(ShellCase):
    def test_bad_clocks(self):
        for day, clock in [("10000", "07:00"), ("99999", "07:00"), ("0", "24:00"), ("0", "47:59"), ("9999", "24:00"),
                           ("10000", "24:00")]:
            self.refused(f"now {day} {clock}", "bad clock")
            self.refused(f"enter zoe a d {day} {clock} 0", "bad clock")
            self.refused(f"plans a d {day} {clock}", "bad clock")
        for trip, day in [("k", "10000"), ("odd", "99999")]:
            self.refused(f"out {trip} {day}", "bad clock")
            self.refused(f"back {trip} {day}", "bad clock")
            self.refused(f"late {trip} {day} 9 999", "bad clock")

    def test_the_last_begin(self):
        self.tell("plans a a 9722 05:20", "9722 05:20 0 0")
        self.refused("plans a a 9722 05:21", "bad clock")
        self.tell("enter zoe a a 9722 05:20 0", "zoe comes 9722 05:20 rides 0 price 0")
        self.refused("enter bob a a 9722 05:21 0", "bad clock")

    def test_no_stop_goes_ahead_of_bad_clock(self):
        for day, clock in [("0", "08:00"), ("10000", "08:00"), ("0", "24:00"), ("9999", "08:00")]:
            for one, other in [("zz", "a"), ("a", "zz"), ("zz", "zz"), ("a#", "a"), ("ann", "a")]:
                self.refused(f"enter Zoe {one} {other} {day} {clock} 9", "no stop")
                self.refused(f"plans {one} {other} {day} {clock}", "no stop")

    def test_enter_for_the_number_and_then_as_a_desk(self):
        self.tell("now 0 07:00", "now 0 07:00")
        self.refused("enter Zoe a d 10000 08:00 9", "bad clock")
        self.refused("enter Zoe a d 0 08:00 1", "no plan")
        self.refused("enter ann a d 0 08:00 99999", "no plan")
        self.refused("enter zoe d a 0 08:00 0", "no plan")
        self.refused("enter Zoe a d 0 06:00 0", "bad name")
        self.refused("enter abcdefghi a d 0 08:00 0", "bad name")
        self.refused("enter ann a d 0 06:00 0", "twice")
        self.refused("enter zoe a d 0 06:59 0", "too late")
        self.tell("enter zoe a d 0 07:00 0", "zoe comes 0 09:00 rides 1 price 200")

    def test_the_ninth_traveller(self):
        for name in "bcdefgh":
            self.tell(f"enter {name} a a 0 08:00 0", f"{name} comes 0 08:00 rides 0 price 0")
        self.refused("enter i a a 0 08:00 0", "too many")
        self.refused("enter h a a 0 08:00 0", "twice")
        self.refused("enter I a a 0 08:00 0", "bad name")
        self.refused("enter i a a 0 08:00 1", "no plan")

    def test_too_many_labels(self):
        self.desk = Desk(crowded_net(3))
        self.refused("plans a f 0 00:00", "too many")
        self.refused("enter zoe a f 0 00:00 9", "too many")
        self.refused("plans a zz 0 00:00", "no stop")
        self.refused("plans a f 0 24:00", "bad clock")

    def test_now(self):
        self.tell("now 1 00:00", "now 1 00:00")
        self.refused("now 0 23:59", "too late")
        self.refused("now 0 24:00", "bad clock")

    def test_notices(self):
        self.refused("late zz 10000 9 999", "no trip")
        self.refused("out ann 0", "no trip")
        self.refused("back zz 10000", "no trip")
        for line in ["late odd 0 9 999", "out odd 0", "back odd 0"]:
            self.refused(line, "no run")
        self.refused("late k 0 4 0", "bad number")
        self.refused("late k 0 99999 999", "bad number")
        self.refused("late k 0 0 301", "bad number")
        self.tell("late k 0 0 300", "nobody")
        self.refused("late k 0 1 0", "bad calls")
        self.tell("out k 0", "broken ann")
        self.refused("out k 0", "no run")
        self.refused("late k 0 0 0", "no run")
        self.tell("now 1 00:00", "now 1 00:00")
        self.refused("back k 0", "too late")
        self.refused("late l 0 0 1", "too late")
        self.refused("out l 0", "too late")
        self.tell("back l 0", "nobody")

    def test_where(self):
        for name in ["zoe", "Ann", "an", "anna", "a", "0", "#"]:
            self.refused("where " + name, "no traveller")


class Played(unittest.TestCase):
    def test_answers_in_one_list(self):
        text = LINES + "--\nplans a d 0 08:00\nenter zoe a d 0 08:00 0\nout k 0\nplans a d 0 08:00\nwhere zoe\n"
        self.assertEqual(played(text), [
            "0 09:00 1 200", "zoe comes 0 09:00 rides 1 price 200", "broken zoe", "none", "at a"])
        self.assertIsInstance(played(text), list)
        self.assertEqual(played(text[:-1]), played(text))

    def test_each_by_a_desk_of_its_own(self):
        text = LINES + "--\nenter zoe a d 0 08:00 0\nnow 0 08:30\nwhere zoe"
        self.assertEqual(played(text), ["zoe comes 0 09:00 rides 1 price 200", "now 0 08:30", "on k 0 1"])
        self.assertEqual(played(text), ["zoe comes 0 09:00 rides 1 price 200", "now 0 08:30", "on k 0 1"])

    def test_several_lines_of_one_answer(self):
        text = LINES.replace("walk a b 10", "walk a b 30") + "--\nplans a b 0 08:00\nnow 0 00:00"
        self.assertEqual(played(text), ["0 08:20 1 200", "0 08:30 0 0", "now 0 00:00"])

    def test_rows_of_blanks_are_passed_over(self):
        self.assertEqual(played("--\n\n   \nnow 0 01:00\n \n\nnow 0 02:00\n    "), ["now 0 01:00", "now 0 02:00"])
        self.assertEqual(played("--"), [])
        self.assertEqual(played("--\n"), [])
        self.assertEqual(played("\n\n--\n \n"), [])

    def test_refusals_among_the_answers(self):
        self.assertEqual(played("--\nnow 0 02:00\nx\n now 0 03:00\nnow 0 03:00 \nnow 0 01:00\n# no\nnow 0 03:00"), [
            "now 0 02:00", "bad line", "bad line", "bad line", "too late", "bad line", "now 0 03:00"])

    def test_no_row_that_parts_them(self):
        for text in ["", "\n", LINES, LINES.strip(), "# nothing", "stop a 1 5"]:
            self.assertEqual(played(text), [])

    def test_two_rows_that_part_them(self):
        self.assertEqual(played("--\nnow 0 01:00\n--\nnow 0 02:00"), ["now 0 01:00", "bad line", "now 0 02:00"])
        self.assertEqual(played("--\n--"), ["bad line"])

    def test_rows_that_are_alike_but_do_not_part(self):
        for row in ["-- ", " --", "---", "-", "- -", "--#", "-- # here"]:
            self.assertEqual(played("stop a 1 5\n" + row + "\nstop b 1 5"), ["row 2: row"])
            self.assertEqual(played("stop a 1 5\n" + row + "\n--\nnow 0 01:00"), ["row 2: row"])
        self.assertEqual(played("stop a 1 5\n# --\nstop b 1 5"), [])

    def test_a_row_that_is_refused(self):
        for text, wanted in [
                ("x", "row 1: row"), ("\n\nx\n--\nnow 0 01:00", "row 3: row"), ("stop a 1 x\n--", "row 1: number"),
                ("stop a 1 5\nstop a 1 5\n--\nnow 0 01:00", "row 2: twice"), ("walk a b 5\n--", "row 1: stop"),
                ("now 0 01:00", "row 1: row"), ("stop A 1 5\n--\nx", "row 1: name"), ("days r x", "row 1: days"),
                (LINES + "trip z all a 08:00 48:00 b 09:00 09:00\n--", "row 13: clock"),
                (LINES + "trip z zz a 08:00 08:00 b 09:00 09:00\n--", "row 13: rule"),
                (LINES + "trip z all a 08:00 08:00\n--", "row 13: calls"),
                (LINES + "ticket t 10001 5 1\n--", "row 13: number"),
                ("\n".join(f"stop {name} 1 0" for name in "abcdefghi") + "\n--\nnow 0 01:00", "row 9: many")]:
            self.assertEqual(played(text), [wanted])

    def test_what_lies_behind_is_not_the_nets(self):
        self.assertEqual(played("stop a 1 5\n--\nstop b 1 5"), ["bad line"])
        self.assertEqual(played("stop a 1 5\n--\nplans a a 0 01:00\nplans a b 0 01:00"), ["0 01:00 0 0", "no stop"])

    def test_no_text(self):
        for wrong in NO_TEXTS:
            self.assertEqual(played(wrong), ["row 0: text"])

    def test_what_is_told_may_be_changed(self):
        text = "--\nnow 0 01:00"
        played(text).clear()
        self.assertEqual(played(text), ["now 0 01:00"])


class OfItsOwn(ShellCase):
    def test_what_is_told_may_be_changed(self):
        for line in ["where ann", "plans a d 0 08:00", "now 0 00:00", "late k 0 0 0", "x"]:
            kept = list(answered(self.desk, line))
            answered(self.desk, line).clear()
            self.assertEqual(answered(self.desk, line), kept)


if __name__ == "__main__":
    unittest.main()
