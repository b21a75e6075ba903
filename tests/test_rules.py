import unittest

from roadbook.errors import BadClock, BadNumber, BadRule, TooMany
from roadbook.rules import Both, But, Each, Either, Rule, Span, Week, next_day

from kinds import HUGE, LISTS, NO_LISTS, NO_NUMBERS, NO_RULES

DAYS = list(range(60)) + [9940, 9997, 9998, 9999]


def chain(depth):
    """A rule so many deep, and as heavy."""
    rule = Rule()
    for _ in range(depth - 1):
        rule = Span(0, 9999, rule)
    return rule


def heavy(weight):
    """A rule of an odd weight, as shallow as it can be."""
    if weight == 1:
        return Rule()
    half = (weight - 1) // 2
    one = half if half % 2 == 1 else half - 1
    return Either(heavy(one), heavy(weight - 1 - one))


class Runs(unittest.TestCase):
    def runs_on(self, rule, days):
        for day in DAYS:
            self.assertIs(rule.runs(day), day in days, day)

    def where(self, wanted):
        return [day for day in DAYS if wanted(day)]

    def test_rule(self):
        self.runs_on(Rule(), DAYS)

    def test_week(self):
        self.runs_on(Week(0), [])
        self.runs_on(Week(127), DAYS)
        self.runs_on(Week(1), self.where(lambda day: day % 7 == 0))
        self.runs_on(Week(2), self.where(lambda day: day % 7 == 1))
        self.runs_on(Week(64), self.where(lambda day: day % 7 == 6))
        self.runs_on(Week(31), self.where(lambda day: day % 7 < 5))

    def test_all_weeks(self):
        for bits in range(128):
            self.assertEqual([Week(bits).runs(day) for day in range(7)], [bits & (2 ** day) > 0 for day in range(7)])

    def test_span(self):
        self.runs_on(Span(10, 20, Rule()), list(range(10, 21)))
        self.runs_on(Span(10, 10, Rule()), [10])
        self.runs_on(Span(0, 9999, Rule()), DAYS)
        self.runs_on(Span(0, 0, Rule()), [0])
        self.runs_on(Span(9999, 9999, Rule()), [9999])
        self.runs_on(Span(10, 20, Week(1)), [14])

    def test_each(self):
        self.runs_on(Each(1, [0]), DAYS)
        self.runs_on(Each(14, [0, 3]), self.where(lambda day: day % 14 in (0, 3)))
        self.runs_on(Each(28, [27]), self.where(lambda day: day % 28 == 27))
        self.runs_on(Each(12, list(range(12))), DAYS)
        self.runs_on(Each(13, list(range(12))), self.where(lambda day: day % 13 != 12))

    def test_either(self):
        self.runs_on(Either(Each(2, [0]), Each(3, [0])), self.where(lambda day: day % 2 == 0 or day % 3 == 0))
        self.runs_on(Either(Week(0), Week(0)), [])

    def test_both(self):
        self.runs_on(Both(Each(2, [0]), Each(3, [0])), self.where(lambda day: day % 6 == 0))
        self.runs_on(Both(Week(127), Week(0)), [])

    def test_but(self):
        self.runs_on(But([5, 6], Rule()), self.where(lambda day: day not in (5, 6)))
        self.runs_on(But([0, 9999], Week(0)), [0, 9999])
        self.runs_on(But([1, 2, 3], Each(2, [1])), self.where(lambda day: (day % 2 == 1) != (day in (1, 2, 3))))
        self.runs_on(But([5], But([5], Rule())), DAYS)

    def test_rules_within_rules(self):
        rule = Either(Span(10, 20, But([12], Week(31))), Both(Each(5, [0]), But([30], Rule())))
        self.runs_on(rule, [10, 11, 12, 14, 15, 16, 17, 18] + self.where(lambda day: day % 5 == 0 and day != 30))
        self.assertFalse(rule.runs(30))
        self.assertFalse(rule.runs(13))
        self.assertFalse(But([12], Span(0, 5, Rule())).runs(13))
        self.assertTrue(But([12], Span(0, 5, Rule())).runs(12))
        self.assertFalse(Span(0, 5, But([12], Rule())).runs(12))


class Words(unittest.TestCase):
    def test_each_kind(self):
        for rule, words in [
            (Rule(), ["always"]),
            (Week(31), ["week", "1111100"]),
            (Week(0), ["week", "0000000"]),
            (Week(127), ["week", "1111111"]),
            (Week(1), ["week", "1000000"]),
            (Week(64), ["week", "0000001"]),
            (Span(10, 20, Rule()), ["span", "10", "20", "always"]),
            (Span(0, 9999, Week(2)), ["span", "0", "9999", "week", "0100000"]),
            (Each(14, [0, 3]), ["each", "14", "0,3"]),
            (Each(1, [0]), ["each", "1", "0"]),
            (Either(Rule(), Week(1)), ["either", "always", "week", "1000000"]),
            (Both(Week(1), Rule()), ["both", "week", "1000000", "always"]),
            (But([5, 6], Rule()), ["but", "5,6", "always"]),
            (But([9999], Each(2, [1])), ["but", "9999", "each", "2", "1"]),
        ]:
            self.assertEqual(rule.words(), words)
            self.assertIsInstance(rule.words(), list)

    def test_within_one_another(self):
        rule = Either(Span(1, 2, But([3, 4], Week(127))), Both(Rule(), Each(28, [0, 27])))
        self.assertEqual(
            " ".join(rule.words()), "either span 1 2 but 3,4 week 1111111 both always each 28 0,27")


class Sizes(unittest.TestCase):
    def sized(self, rule, weight, depth):
        self.assertEqual((rule.weight(), rule.depth()), (weight, depth))

    def test_each_kind(self):
        self.sized(Rule(), 1, 1)
        self.sized(Week(5), 1, 1)
        self.sized(Each(2, [0, 1]), 1, 1)
        self.sized(Span(1, 2, Rule()), 2, 2)
        self.sized(But([1, 2, 3], Rule()), 2, 2)
        self.sized(Either(Rule(), Rule()), 3, 2)
        self.sized(Both(Rule(), Rule()), 3, 2)

    def test_within_one_another(self):
        self.sized(Either(Span(1, 2, But([3], Rule())), Week(1)), 5, 4)
        self.sized(Either(Week(1), Span(1, 2, But([3], Rule()))), 5, 4)
        self.sized(Both(Span(1, 2, But([3], Rule())), Week(1)), 5, 4)
        self.sized(Both(Week(1), Span(1, 2, But([3], Rule()))), 5, 4)

    def test_one_that_is_there_twice_counts_twice(self):
        rule = Span(1, 2, Rule())
        self.sized(Either(rule, rule), 5, 3)
        self.sized(Both(rule, rule), 5, 3)
        twice = Either(rule, rule)
        self.sized(Both(twice, twice), 11, 4)
        seven = Either(Both(Rule(), Rule()), Both(Rule(), Rule()))
        self.sized(Both(seven, seven), 15, 4)

    def test_weight_15_and_16(self):
        fourteen = Span(0, 1, heavy(13))
        self.assertEqual(fourteen.weight(), 14)
        self.assertEqual(heavy(15).weight(), 15)
        self.assertEqual(Span(0, 1, fourteen).weight(), 15)
        self.assertEqual(But([1], fourteen).weight(), 15)
        self.assertEqual(Either(heavy(7), heavy(7)).weight(), 15)
        self.assertEqual(Both(heavy(7), heavy(7)).weight(), 15)
        eight = Span(0, 1, heavy(7))
        for make in [
            lambda: Span(0, 1, heavy(15)), lambda: But([1], heavy(15)), lambda: Either(eight, heavy(7)),
            lambda: Either(heavy(7), eight), lambda: Both(eight, heavy(7)), lambda: Both(heavy(7), eight),
            lambda: Either(heavy(15), heavy(15)), lambda: Both(heavy(15), Rule()),
        ]:
            self.assertRaises(TooMany, make)

    def test_depth_8_and_9(self):
        seven = chain(7)
        for rule in [Span(0, 1, seven), But([1], seven), Either(seven, Rule()), Either(Rule(), seven),
                     Both(seven, Rule()), Both(Rule(), seven)]:
            self.assertEqual(rule.depth(), 8)
        eight = chain(8)
        self.assertEqual((eight.weight(), eight.depth()), (8, 8))
        for make in [
            lambda: Span(0, 1, eight), lambda: But([1], eight), lambda: Either(eight, Rule()),
            lambda: Either(Rule(), eight), lambda: Both(eight, Rule()), lambda: Both(Rule(), eight),
        ]:
            self.assertRaises(TooMany, make)

    def test_what_is_refused_changes_nothing(self):
        rule = chain(8)
        words = rule.words()
        self.assertRaises(TooMany, Span, 0, 1, rule)
        self.assertRaises(BadRule, Span, 1, 0, rule)
        self.assertEqual((rule.words(), rule.weight(), rule.depth()), (words, 8, 8))
        self.assertEqual(But([1], chain(7)).depth(), 8)


class Refusals(unittest.TestCase):
    def refused(self, make, *arguments):
        with self.assertRaises(BadRule):
            make(*arguments)

    def test_kinds(self):
        for kind in [Week, Span, Each, Either, Both, But]:
            self.assertTrue(issubclass(kind, Rule))

    def test_week(self):
        for bits in [-1, 128, 129, "1111100", [1]] + HUGE + NO_NUMBERS:
            self.refused(Week, bits)

    def test_span(self):
        for wrong in [-1, 10000, 10001] + HUGE + NO_NUMBERS:
            self.refused(Span, wrong, 9999, Rule())
            self.refused(Span, 0, wrong, Rule())
            self.refused(Span, wrong, wrong, Rule())
        for first, last in [(1, 0), (20, 10), (9999, 9998)]:
            self.refused(Span, first, last, Rule())
        for rule in NO_RULES:
            self.refused(Span, 10, 20, rule)

    def test_each(self):
        for length in [-1, 0, 29, 30] + HUGE + NO_NUMBERS:
            self.refused(Each, length, [0])
        for starts in [
            [], [-1], [14], [0, 14], [-1, 0], [3, 0], [0, 0], [0, 3, 3], [0, 3, 2], [0, None], [0, True], [False],
            [False, 1], [0.0], [0, "3"], [0, [3]], ["0,3"], [10 ** 5000], list(range(13)), (0, 3), "0,3", {0: 3},
        ] + LISTS + NO_LISTS:
            self.refused(Each, 14, starts)
        self.refused(Each, 1, [1])
        self.refused(Each, 1, [0, 1])
        self.refused(Each, None, None)

    def test_edges_of_each(self):
        for length, starts in [(1, [0]), (28, [0]), (28, [27]), (12, list(range(12))), (28, list(range(16, 28)))]:
            self.assertEqual(Each(length, starts).words()[1], str(length))

    def test_either_and_both(self):
        for rule in NO_RULES:
            for kind in [Either, Both]:
                self.refused(kind, rule, Rule())
                self.refused(kind, Rule(), rule)
                self.refused(kind, rule, rule)

    def test_but(self):
        for days in [
            [], [-1], [10000], [0, 10000], [-1, 0], [6, 5], [5, 5], [5, 6, 6], [5, 6, 4], [5, None], [0, True],
            [False, 1], [5.0], [5, "6"], [5, [6]], ["5,6"], [10 ** 5000], list(range(13)), (5, 6), "5,6", {5: 6}, 5,
        ] + LISTS + NO_LISTS:
            self.refused(But, days, Rule())
        for rule in NO_RULES:
            self.refused(But, [5, 6], rule)

    def test_edges_of_but(self):
        for days in [[0], [9999], [0, 9999], list(range(12)), list(range(9988, 10000))]:
            rule = But(days, Week(0))
            self.assertEqual([day for day in range(10000) if rule.runs(day)], days)

    def test_bad_rule_ahead_of_too_many(self):
        for rule in [chain(8), heavy(15)]:
            self.refused(Span, -1, 5, rule)
            self.refused(Span, 5, 4, rule)
            self.refused(But, [], rule)
            self.refused(Either, rule, None)
            self.refused(Either, None, rule)
            self.refused(Both, rule, 5)
            self.refused(Both, 5, rule)


class Kept(unittest.TestCase):
    def test_lists_are_not_kept(self):
        starts = [0, 3]
        each = Each(14, starts)
        starts.append(5)
        starts[0] = 1
        self.assertEqual(each.words(), ["each", "14", "0,3"])
        self.assertTrue(each.runs(0))
        self.assertFalse(each.runs(5))
        days = [5, 6]
        but = But(days, Rule())
        outer = Span(0, 9, but)
        days.clear()
        self.assertFalse(but.runs(5))
        self.assertEqual(outer.words(), ["span", "0", "9", "but", "5,6", "always"])

    def test_lists_are_not_changed(self):
        starts = [0, 3]
        days = [5, 6]
        Either(Each(14, starts), But(days, Rule())).words()
        self.assertEqual((starts, days), ([0, 3], [5, 6]))
        wrong = [6, 5]
        self.assertRaises(BadRule, But, wrong, Rule())
        self.assertEqual(wrong, [6, 5])

    def test_rules_are_not_kept(self):
        inner = Week(127)
        rules = [Span(0, 9, inner), Either(inner, inner), Both(inner, inner), But([5], inner)]
        told = [rule.words() for rule in rules]
        inner.__init__(0)
        self.assertEqual([rule.words() for rule in rules], told)
        self.assertEqual([rule.runs(1) for rule in rules], [True] * 4)

    def test_rules_within_are_not_kept(self):
        inner = Each(2, [0])
        middle = Both(But([1], inner), Span(0, 9, inner))
        outer = Either(middle, middle)
        told = outer.words()
        inner.__init__(3, [1])
        middle.__init__(Rule(), Rule())
        self.assertEqual(outer.words(), told)

    def test_told_words_are_the_askers_own(self):
        for rule in [Rule(), Week(3), Span(1, 2, Rule()), Each(2, [0]), Either(Rule(), Rule()), Both(Rule(), Rule()),
                     But([1], Rule())]:
            told = rule.words()
            kept = list(told)
            told.append("more")
            told[0] = "less"
            self.assertEqual(rule.words(), kept)


class NextDay(unittest.TestCase):
    def test_ordinary_ones(self):
        self.assertEqual(next_day(Rule(), 0), 0)
        self.assertEqual(next_day(Rule(), 9999), 9999)
        self.assertEqual(next_day(Week(1), 1), 7)
        self.assertEqual(next_day(Week(1), 7), 7)
        self.assertEqual(next_day(Span(10, 20, Rule()), 0), 10)
        self.assertEqual(next_day(Span(10, 20, Rule()), 20), 20)
        self.assertIsNone(next_day(Span(10, 20, Rule()), 21))
        self.assertIsNone(next_day(Week(0), 0))

    def test_most_left_out_is_400(self):
        rule = Span(500, 500, Rule())
        self.assertEqual(next_day(rule, 100), 500)
        self.assertIsNone(next_day(rule, 99))
        self.assertEqual(next_day(rule, 100, 400), 500)
        self.assertEqual(next_day(rule, 101, 399), 500)
        self.assertIsNone(next_day(rule, 100, 399))
        self.assertEqual(next_day(rule, 100, most=400), 500)

    def test_most_0(self):
        self.assertEqual(next_day(Week(1), 7, 0), 7)
        self.assertIsNone(next_day(Week(1), 6, 0))
        self.assertEqual(next_day(Week(1), 6, 1), 7)

    def test_no_later_than_9999(self):
        self.assertIsNone(next_day(Week(0), 9999))
        self.assertIsNone(next_day(Each(28, [4]), 9999))
        self.assertEqual(10000 % 28, 4)
        self.assertIsNone(next_day(Each(28, [4]), 9990, 400))
        self.assertEqual(next_day(Span(9999, 9999, Rule()), 9600), 9999)
        self.assertEqual(next_day(Rule(), 9999, 0), 9999)

    def test_against_a_plain_search(self):
        rule = But([40, 41], Both(Each(9, [2, 5]), Week(21)))
        for day in range(0, 120):
            for most in [0, 1, 5, 30, 400]:
                found = [later for later in range(day, day + most + 1) if rule.runs(later)]
                self.assertEqual(next_day(rule, day, most), found[0] if found else None)

    def test_refusals(self):
        for rule in NO_RULES:
            self.assertRaises(BadRule, next_day, rule, 0)
        for day in [-1, 10000] + HUGE + NO_NUMBERS:
            self.assertRaises(BadClock, next_day, Rule(), day)
        for most in [-1, 401, 402] + HUGE + NO_NUMBERS:
            self.assertRaises(BadNumber, next_day, Rule(), 0, most)

    def test_refusals_in_their_order(self):
        self.assertRaises(BadRule, next_day, None, -1, -1)
        self.assertRaises(BadRule, next_day, None, 0, -1)
        self.assertRaises(BadRule, next_day, None, -1, 0)
        self.assertRaises(BadClock, next_day, Rule(), -1, -1)
        self.assertRaises(BadClock, next_day, Rule(), True, None)
        self.assertRaises(BadNumber, next_day, Rule(), 0, True)


if __name__ == "__main__":
    unittest.main()
