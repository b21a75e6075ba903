import unittest

from roadbook.clocks import clock_text, day_and_minute, minute_of, moment_by, moment_of, moment_text
from roadbook.errors import BadClock

from kinds import HUGE, NO_NUMBERS, NO_TEXTS

NO_CLOCKS = [
    "48:00", "47:60", "00:60", "12:99", "99:99", "99:00", "1:30", "01:3", "001:30", "01:030", "0130", "01-30", "01.30",
    "01 30", "01::30", ":130", "130:", "+1:30", "-1:30", "01:+3", "01:-3", " 1:30", "01: 3", " 01:30", "01:30 ",
    "01:30\n",
    "\n01:30", "ab:cd", "0a:30", "01:3b", "1_:30", ":", "::", "::::", "", " ", "01:30:00", "1e:30", "0x:10", "12;30",
]


class Refusals(unittest.TestCase):
    def refused(self, function, *arguments):
        with self.assertRaises(BadClock):
            function(*arguments)


class ClockTests(Refusals):
    def test_texts_of_minutes(self):
        for minute, text in [
            (0, "00:00"), (1, "00:01"), (59, "00:59"), (60, "01:00"), (754, "12:34"), (1439, "23:59"), (1440, "24:00"),
            (1441, "24:01"), (2879, "47:59"),
        ]:
            self.assertEqual(clock_text(minute), text)
            self.assertEqual(minute_of(text), minute)

    def test_all_minutes_both_ways(self):
        texts = ["%02d:%02d" % (hour, minute) for hour in range(48) for minute in range(60)]
        self.assertEqual([clock_text(minute) for minute in range(2880)], texts)
        self.assertEqual([minute_of(text) for text in texts], list(range(2880)))

    def test_no_minutes(self):
        for minute in [-1, -60, 2880, 2881, 14400] + HUGE + NO_NUMBERS:
            self.refused(clock_text, minute)

    def test_no_clocks(self):
        for text in NO_CLOCKS:
            with self.subTest(text=text):
                self.refused(minute_of, text)

    def test_no_texts(self):
        for text in NO_TEXTS + [754, ["12:34"], ["1", "2", ":", "3", "4"], ("12", "34")]:
            self.refused(minute_of, text)

    def test_figures_of_five_signs_alone(self):
        signs = "0129:+- .a"
        taken = []
        for head in [one + two for one in signs for two in signs]:
            for text in [head + ":30", "01:" + head, head + "130", "01" + head + "0"]:
                try:
                    minute_of(text)
                except BadClock:
                    continue
                taken.append(text)
        for text in taken:
            self.assertRegex(text, "^([0-3][0-9]|4[0-7]):[0-5][0-9]$")
        self.assertIn("29:30", taken)


class MomentTests(Refusals):
    def test_ordinary_ones(self):
        for day, minute, moment, text in [
            (0, 0, 0, "0 00:00"), (0, 1439, 1439, "0 23:59"), (1, 0, 1440, "1 00:00"), (3, 495, 4815, "3 08:15"),
            (10, 600, 15000, "10 10:00"), (100, 61, 144061, "100 01:01"), (9999, 0, 14398560, "9999 00:00"),
            (9999, 1439, 14399999, "9999 23:59"),
        ]:
            with self.subTest(text):
                self.assertEqual(moment_of(day, minute), moment)
                self.assertEqual(day_and_minute(moment), (day, minute))
                self.assertIsInstance(day_and_minute(moment), tuple)
                self.assertEqual(moment_text(moment), text)
                self.assertEqual(moment_by(text), moment)

    def test_many_both_ways(self):
        for moment in range(0, 14400000, 7919):
            day, minute = day_and_minute(moment)
            self.assertTrue(0 <= minute < 1440)
            self.assertEqual(day * 1440 + minute, moment)
            self.assertEqual(moment_of(day, minute), moment)
            self.assertEqual(moment_by(moment_text(moment)), moment)

    def test_all_minutes_of_a_day(self):
        self.assertEqual([moment_of(7, minute) for minute in range(1440)], list(range(10080, 11520)))

    def test_no_days(self):
        for day in [-1, 10000, 10001] + HUGE + NO_NUMBERS:
            self.refused(moment_of, day, 0)
            self.refused(moment_of, day, 1439)

    def test_no_minutes_of_a_day(self):
        for minute in [-1, 1440, 1441, 2879, 2880] + HUGE + NO_NUMBERS:
            self.refused(moment_of, 0, minute)
            self.refused(moment_of, 9999, minute)

    def test_neither(self):
        for wrong in [-1, 14400000, True] + HUGE + NO_NUMBERS:
            self.refused(moment_of, wrong, wrong)

    def test_no_moments(self):
        for moment in [-1, -1440, 14400000, 14400001] + HUGE + NO_NUMBERS:
            self.refused(day_and_minute, moment)
            self.refused(moment_text, moment)

    def test_no_texts(self):
        for text in NO_TEXTS + [4815, ["3 08:15"], ("3", "08:15"), ["3", "08:15"]]:
            self.refused(moment_by, text)

    def test_texts_of_no_moment(self):
        for text in [
            "", " ", "3", "08:15", "3 ", " 08:15", " 3 08:15", "3 08:15 ", "3  08:15", "3 08:15 1", "1 3 08:15",
            "308:15", "03 08:15", "00 08:15", "00003 08:15", "-3 08:15", "+3 08:15", "-0 08:15", "3. 08:15", "x 08:15",
            "10000 08:15", "99999 08:15", "123456 08:15", "1_0 08:15", "3,0 08:15", "3 24:00", "3 47:59", "3 48:00",
            "3 8:15", "3 08:60", "3 8:015", "3\n08:15", "3 08:15\n", "\n3 08:15", "3 -8:15", "3:08:15",
            "9" * 5000 + " 08:15",
        ]:
            with self.subTest(text=text[:20]):
                self.refused(moment_by, text)

    def test_no_clock_behind_a_day(self):
        for text in NO_CLOCKS:
            self.refused(moment_by, "3 " + text)

    def test_the_last_moment_and_one_beyond(self):
        self.assertEqual(moment_by("9999 23:59"), 14399999)
        self.refused(moment_by, "9999 24:00")
        self.refused(moment_by, "10000 00:00")


if __name__ == "__main__":
    unittest.main()
