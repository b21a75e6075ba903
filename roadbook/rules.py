"""Rules of days: whether something runs on a day."""

from roadbook.clocks import LAST_DAY
from roadbook.errors import BadClock, BadNumber, BadRule, TooMany
from roadbook.figures import are_rising, is_number

WEEK_DAYS = 7
ALL_WEEK = 127
MOST_LENGTH = 28
MOST_LISTED = 12
MOST_WEIGHT = 15
MOST_DEPTH = 8
MOST_LATER = 400


def copy_of(rule):
    """A rule like the one handed in, which is not kept itself."""
    if not isinstance(rule, Rule):
        raise BadRule("no rule")
    return rule.copied()


def check_size(rule):
    if rule.weight() > MOST_WEIGHT:
        raise TooMany("weighs too much")
    if rule.depth() > MOST_DEPTH:
        raise TooMany("too deep")


def list_text(numbers):
    return ",".join([str(number) for number in numbers])


class Rule:
    """Each day; and what all rules have in common."""

    def copied(self):
        return Rule()

    def parts(self):
        """The rules in it."""
        return []

    def runs(self, day):
        """Whether it runs on a day."""
        return True

    def words(self):
        """The words of its text."""
        return ["always"]

    def weight(self):
        return 1 + sum([part.weight() for part in self.parts()])

    def depth(self):
        return 1 + max([part.depth() for part in self.parts()], default=0)


class Week(Rule):
    """The weekdays whose bit is set, the lowest for weekday 0."""

    def __init__(self, bits):
        if not is_number(bits, 0, ALL_WEEK):
            raise BadRule("no bits of weekdays")
        self.bits = bits

    def copied(self):
        return Week(self.bits)

    def runs(self, day):
        return (self.bits >> (day % WEEK_DAYS)) & 1 == 1

    def words(self):
        # A day below 7 is its own weekday.
        return ["week", "".join(["1" if self.runs(day) else "0" for day in range(WEEK_DAYS)])]


class Span(Rule):
    """As its rule, from one day to another one, both counted."""

    def __init__(self, first, last, rule):
        if not is_number(first, 0, LAST_DAY):
            raise BadRule("no first day")
        if not is_number(last, first, LAST_DAY):
            raise BadRule("no last day")
        self.first = first
        self.last = last
        self.inner = copy_of(rule)
        check_size(self)

    def copied(self):
        return Span(self.first, self.last, self.inner)

    def parts(self):
        return [self.inner]

    def runs(self, day):
        return self.first <= day <= self.last and self.inner.runs(day)

    def words(self):
        return ["span", str(self.first), str(self.last)] + self.inner.words()


class Each(Rule):
    """The days whose rest by a length is a start."""

    def __init__(self, length, starts):
        if not is_number(length, 1, MOST_LENGTH):
            raise BadRule("no length")
        if not are_rising(starts, MOST_LISTED, 0, length - 1):
            raise BadRule("no starts")
        self.length = length
        self.starts = tuple(starts)

    def copied(self):
        return Each(self.length, list(self.starts))

    def runs(self, day):
        return day % self.length in self.starts

    def words(self):
        return ["each", str(self.length), list_text(self.starts)]


class Either(Rule):
    """As one of two rules, or both."""

    def __init__(self, one, other):
        self.one = copy_of(one)
        self.other = copy_of(other)
        check_size(self)

    def copied(self):
        return Either(self.one, self.other)

    def parts(self):
        return [self.one, self.other]

    def runs(self, day):
        return self.one.runs(day) or self.other.runs(day)

    def words(self):
        return ["either"] + self.one.words() + self.other.words()


class Both(Rule):
    """As two rules together."""

    def __init__(self, one, other):
        self.one = copy_of(one)
        self.other = copy_of(other)
        check_size(self)

    def copied(self):
        return Both(self.one, self.other)

    def parts(self):
        return [self.one, self.other]

    def runs(self, day):
        return self.one.runs(day) and self.other.runs(day)

    def words(self):
        return ["both"] + self.one.words() + self.other.words()


class But(Rule):
    """As its rule, but on some days the other way about."""

    def __init__(self, days, rule):
        if not are_rising(days, MOST_LISTED, 0, LAST_DAY):
            raise BadRule("no days")
        self.days = tuple(days)
        self.inner = copy_of(rule)
        check_size(self)

    def copied(self):
        return But(list(self.days), self.inner)

    def parts(self):
        return [self.inner]

    def runs(self, day):
        return self.inner.runs(day) != (day in self.days)

    def words(self):
        return ["but", list_text(self.days)] + self.inner.words()


def next_day(rule, day, most=400):
    """The first day from this one on, at most so many later, on which the rule runs, or None."""
    if not isinstance(rule, Rule):
        raise BadRule("no rule")
    if not is_number(day, 0, LAST_DAY):
        raise BadClock("no day")
    if not is_number(most, 0, MOST_LATER):
        raise BadNumber("no number of days to look ahead")
    for later in range(day, min(day + most, LAST_DAY) + 1):
        if rule.runs(later):
            return later
    return None
