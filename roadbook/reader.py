"""The net that a text tells."""

from roadbook.clocks import minute_of
from roadbook.errors import (
    BadCalls, BadClock, BadName, BadNumber, BadRow, BadRule, NoRule, NoStop, RoadError, TooMany, Twice)
from roadbook.figures import are_figures, number_by
from roadbook.net import Net
from roadbook.ruletext import rule_of


def net_of(text):
    """The net that a text tells, row by row."""
    if not isinstance(text, str):
        raise BadRow(0, "text")
    net = Net()
    for number, row in enumerate(text.split("\n"), start=1):
        words = words_in(row)
        if len(words) > 0:
            put_row(net, number, words)
    return net


def words_in(row):
    """A row's words, without remarks; two blanks between make an empty one."""
    bare = row.partition("#")[0].strip(" ")
    return [] if bare == "" else bare.split(" ")


def put_row(net, number, words):
    if not have_row_form(words):
        raise BadRow(number, "row")
    try:
        put_words(net, words)
    except RoadError as e:
        raise BadRow(number, refusal_word(e)) from None


def have_row_form(words):
    """Whether it is a row of some sort, by the count of its words."""
    if "" in words:
        return False
    count = len(words)
    if words[0] in ("stop", "walk"):
        return count == 4
    if words[0] == "ticket":
        return count == 5
    if words[0] == "days":
        return count >= 3
    # Three words ahead of the calls, and three for each.
    return words[0] == "trip" and count % 3 == 0


def put_words(net, words):
    """Puts a row to a net."""
    # All words are read, in their order, ahead of the net's own refusals.
    if words[0] == "stop":
        net.add_stop(words[1], number_in(words[2]), number_in(words[3]))
    elif words[0] == "walk":
        net.add_walk(words[1], words[2], number_in(words[3]))
    elif words[0] == "days":
        net.add_rule(words[1], rule_of(" ".join(words[2:])))
    elif words[0] == "ticket":
        net.add_ticket(words[1], number_in(words[2]), number_in(words[3]), zones_in(words[4]))
    else:
        net.add_trip(words[1], words[2], calls_in(words[3:]))


def number_in(word):
    number = number_by(word)
    if number is None:
        raise BadNumber("no number of figures")
    return number


def zones_in(word):
    if not are_figures(word):
        raise BadNumber("zones are figures")
    return [int(sign) for sign in word]


def calls_in(words):
    return [
        (words[at], minute_of(words[at + 1]), minute_of(words[at + 2])) for at in range(0, len(words), 3)]


def refusal_word(error):
    """The word of a row's refusal."""
    if isinstance(error, BadNumber):
        return "number"
    if isinstance(error, BadClock):
        return "clock"
    if isinstance(error, BadRule):
        return "days"
    if isinstance(error, BadName):
        return "name"
    if isinstance(error, Twice):
        return "twice"
    if isinstance(error, NoStop):
        return "stop"
    if isinstance(error, NoRule):
        return "rule"
    if isinstance(error, BadCalls):
        return "calls"
    return "many"
