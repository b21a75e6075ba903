import unittest

from roadbook.errors import BadRule, TooMany
from roadbook.rules import Both, But, Each, Either, Rule, Span, Week
from roadbook.ruletext import rule_of, rule_text

from kinds import HUGE, NO_RULES, NO_TEXTS

GOOD = [
    (Rule(), "always"),
    (Week(31), "week 1111100"),
    (Week(0), "week 0000000"),
    (Week(127), "week 1111111"),
    (Week(1), "week 1000000"),
    (Week(64), "week 0000001"),
    (Span(10, 20, Rule()), "span 10 20 always"),
    (Span(0, 0, Week(3)), "span 0 0 week 1100000"),
    (Span(0, 9999, Rule()), "span 0 9999 always"),
    (Each(14, [0, 3]), "each 14 0,3"),
    (Each(1, [0]), "each 1 0"),
    (Each(28, list(range(16, 28))), "each 28 16,17,18,19,20,21,22,23,24,25,26,27"),
    (Either(Rule(), Week(0)), "either always week 0000000"),
    (Both(Week(0), Rule()), "both week 0000000 always"),
    (But([5, 6], Rule()), "but 5,6 always"),
    (But([0, 9999], Each(2, [1])), "but 0,9999 each 2 1"),
    (But(list(range(12)), Rule()), "but 0,1,2,3,4,5,6,7,8,9,10,11 always"),
    (Either(Either(Rule(), Week(1)), Week(2)), "either either always week 1000000 week 0100000"),
    (Either(Week(1), Either(Week(2), Rule())), "either week 1000000 either week 0100000 always"),
    (Either(Span(1, 2, But([3, 4], Week(127))), Both(Rule(), Each(28, [0, 27]))),
     "either span 1 2 but 3,4 week 1111111 both always each 28 0,27"),
    (Both(Both(Span(1, 5, Rule()), But([3], Rule())), Each(3, [0, 1])),
     "both both span 1 5 always but 3 always each 3 0,1"),
]

BAD = [
    "", " ", "  ", "\n", "ALWAYS", "Always", "alway", "alwayss", "never", "rule", "always always",
    "always week 1111100",
    " always", "always ", "\nalways", "always\n", "always#", "0", "always 0", ",",
    "week", "week ", "week  1111100", "week 111110", "week 11111000", "week 1111102", "week 111110a", "week 11111 0",
    "week -111100", "week 31", "week 1,1,1,1", "week 1111100 always", "week 1111100 ", "week\n1111100",
    "week 1111100\n",
    "span", "span 10", "span 10 20", "span 10 20 ", "span 10 20  always", "span 10  20 always", "span  10 20 always",
    "span 20 10 always", "span 10 always", "span 10 20 30 always", "span always", "span 10,20 always",
    "span 010 20 always",
    "span 10 020 always", "span 00 20 always", "span 0 00 always", "span -1 20 always", "span -0 20 always",
    "span +10 20 always", "span 10 10000 always", "span 10000 10000 always", "span 0 99999 always",
    "span 0 009999 always", "span 0 123456 always", "span 0 00005 always", "span 000000 5 always", "span 1.0 20 always",
    "span 1_0 20 always", "span a 20 always", "span 10 b always", "span 0x1 20 always", "span 10 20 never",
    "span 10 20 always always", "span 10 20 10 20", "span 10 \n20 always", "span 10\n 20 always",
    "each", "each 14", "each 14 ", "each 14 0,3 always", "each 14 0 3", "each 0 0", "each 29 0", "each 99999 0",
    "each 100000 0",
    "each 014 0", "each -1 0", "each 14 14", "each 14 0,14", "each 14 3,0", "each 14 0,0", "each 14 0,3,3",
    "each 14 0,03",
    "each 14 00", "each 14 0,", "each 14 ,0", "each 14 0,,3", "each 14 ,", "each 14 0, 3", "each 14 0 ,3",
    "each 14 0;3",
    "each 14 -1", "each 14 +0", "each 14 0,1,2,3,4,5,6,7,8,9,10,11,12", "each 14 a", "each 14  0", "each  14 0",
    "each 1 1",
    "each 14 [0,3]", "each 14 0,3\n", "each always 0", "each 14 0,100000", "each 14 0.0",
    "either", "either always", "either always ", "either  always always", "either always  always",
    "either always always always", "either always never", "either never always", "either week 1111100",
    "either or always",
    "both", "both always", "both always ", "both always always always", "both never always", "both always never",
    "both always and always", "both both always always",
    "but", "but 5", "but 5,6", "but 5,6 ", "but 5,6  always", "but  5,6 always", "but always", "but 5 6 always",
    "but 6,5 always", "but 5,5 always", "but 05 always", "but 5,06 always", "but 10000 always", "but 0,10000 always",
    "but -1 always", "but , always", "but 5, always", "but ,5 always", "but 5,,6 always", "but 5,6 never",
    "but 5,6 always always", "but 0,1,2,3,4,5,6,7,8,9,10,11,12 always", "but 5,6 week 1111", "but 5,000006 always",
    "but 5, 6 always", "(always)", "always or always", "week(31)", "but 5,6,always",
]


def nested(count):
    """A rule's text that is one deeper than so many rules."""
    return "but 5 " * count + "always"


class BothWays(unittest.TestCase):
    def test_texts_of_rules(self):
        for rule, text in GOOD:
            self.assertEqual(rule_text(rule), text)

    def test_rules_of_texts(self):
        for rule, text in GOOD:
            with self.subTest(text):
                read = rule_of(text)
                self.assertIs(read.__class__, rule.__class__)
                self.assertEqual(read.words(), rule.words())
                self.assertEqual(rule_text(read), text)
                self.assertEqual((read.weight(), read.depth()), (rule.weight(), rule.depth()))
                days = list(range(60)) + [9999]
                self.assertEqual([read.runs(day) for day in days], [rule.runs(day) for day in days])

    def test_all_weeks(self):
        for bits in range(128):
            text = "week " + "".join(reversed(format(bits, "07b")))
            self.assertEqual(rule_text(Week(bits)), text)
            self.assertEqual([rule_of(text).runs(day) for day in range(7)], [Week(bits).runs(day) for day in range(7)])

    def test_all_numbers(self):
        for day in range(10000):
            text = "span %d %d always" % (day, day)
            self.assertEqual(rule_text(rule_of(text)), text)

    def test_a_rule_is_made_anew(self):
        one = rule_of("each 14 0,3")
        other = rule_of("each 14 0,3")
        one.words().append("more")
        one.__init__(2, [1])
        self.assertEqual(other.words(), ["each", "14", "0,3"])


class Refusals(unittest.TestCase):
    def refused(self, text):
        # Not even by a class under it: what weighs too much is BadRule here, not TooMany.
        with self.assertRaises(BadRule) as caught:
            rule_of(text)
        self.assertNotIsInstance(caught.exception, TooMany)

    def test_no_rules(self):
        for rule in NO_RULES:
            self.assertRaises(BadRule, rule_text, rule)

    def test_no_texts(self):
        for text in NO_TEXTS + HUGE + [["always"], ("always",), Rule(), b"always"]:
            self.assertRaises(BadRule, rule_of, text)

    def test_texts_of_no_rule(self):
        for text in BAD:
            with self.subTest(text=text):
                self.refused(text)

    def test_good_texts_spoilt(self):
        for rule, text in GOOD:
            words = text.split(" ")
            for at in range(len(words)):
                with self.subTest(text=text, at=at):
                    self.refused(" ".join(words[:at] + [""] + words[at:]))
                    self.refused(" ".join(words[:at] + words[at + 1:]))
                    self.refused(" ".join(words[:at] + [words[at] + "x"] + words[at + 1:]))
                    self.refused(" ".join(words[:at] + ["0" + words[at]] + words[at + 1:]))
            for text in [text + " ", " " + text, text + " always", text + "\n", text + " 0"]:
                self.refused(text)

    def test_depth_8_and_9(self):
        self.assertEqual(rule_of(nested(7)).depth(), 8)
        self.refused(nested(8))
        self.refused("span 0 1 " + nested(7))
        self.refused("either always " + nested(7))
        self.refused("both " + nested(7) + " always")
        self.assertEqual(rule_of("either always " + nested(6)).depth(), 8)

    def test_depth_8_by_each_kind(self):
        for head, tail in [("span 0 1 ", ""), ("but 5 ", ""), ("either always ", ""), ("both always ", ""),
                           ("either ", " always"), ("both ", " always")]:
            with self.subTest(head):
                self.assertEqual(rule_of(head * 7 + "always" + tail * 7).depth(), 8)
                self.refused(head * 8 + "always" + tail * 8)

    def test_weight_15_and_16(self):
        seven = "either both always always both always always"
        self.assertEqual(rule_of("both " + seven + " " + seven).weight(), 15)
        self.refused("both but 5 " + seven + " " + seven)
        self.refused("both " + seven + " but 5 " + seven)
        self.refused("span 0 1 both " + seven + " " + seven)
        self.assertEqual(rule_of("span 0 1 span 0 1 either both always always " + seven).weight(), 13)

    def test_too_deep_by_far(self):
        for text in [nested(2000), "either " * 5000, "both " * 5000 + "always", "span 0 1 " * 3000 + "always",
                     "either always " * 3000 + "always", "both always " * 3000 + "always"]:
            self.refused(text)

    def test_too_long_by_far(self):
        for text in ["always " * 5000, "each 14 " + ",".join(["0"] * 5000), "span 0 " + "9" * 6000 + " always",
                     "week " + "1" * 5000, "but " + ",".join(str(day) for day in range(5000)) + " always"]:
            self.refused(text)


if __name__ == "__main__":
    unittest.main()
