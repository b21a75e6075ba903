"""Lines to a desk, and its answers."""

from roadbook.clocks import minute_of, moment_of, moment_text
from roadbook.desk import Desk
from roadbook.errors import (
    BadCalls, BadClock, BadLine, BadName, BadNumber, BadRow, NoPlan, NoRun, NoStop, NoTraveller, NoTrip, RoadError,
    TooLate, TooMany, Twice)
from roadbook.figures import number_by
from roadbook.fronts import front
from roadbook.reader import net_of

# The words of each line, its first one among them.
WORDS = {"now": 3, "enter": 7, "late": 5, "out": 3, "back": 3, "where": 2, "plans": 5}
PARTING = "--"


def answered(desk, line):
    """The lines that a desk answers to a line."""
    try:
        return answers_to(desk, words_in(line))
    except RoadError as e:
        return [refusal_words(e)]


def played(text):
    """The answers to all lines behind the parting row, by a desk of the net that the rows ahead tell."""
    parts = parts_of(text)
    try:
        desk = Desk(net_of(parts[0]))
    except BadRow as e:
        return ["row " + str(e.row) + ": " + e.word]
    found = []
    for line in parts[1]:
        found.extend(answered(desk, line))
    return found


def parts_of(text):
    """The net's text, and the lines to the desk."""
    # What is no text is left to the reader, which refuses it.
    rows = text.split("\n") if isinstance(text, str) else []
    if PARTING not in rows:
        return (text, [])
    place = rows.index(PARTING)
    return ("\n".join(rows[:place]), [row for row in rows[place + 1:] if row.strip(" ") != ""])


def words_in(line):
    """A line's words."""
    words = line.split(" ") if isinstance(line, str) else []
    if len(words) == 0 or "" in words or WORDS.get(words[0]) != len(words):
        raise BadLine("no line, or another count of words")
    return words


def number_in(word):
    number = number_by(word)
    if number is None:
        raise BadLine("no number of figures")
    return number


def minute_in(word):
    try:
        return minute_of(word)
    except BadClock:
        raise BadLine("no HH:MM") from None


def answers_to(desk, words):
    if words[0] == "now":
        return answers_to_now(desk, words)
    if words[0] == "enter":
        return answers_to_enter(desk, words)
    if words[0] == "plans":
        return answers_to_plans(desk, words)
    if words[0] == "where":
        return [" ".join([str(word) for word in desk.where(words[1])])]
    if words[0] == "late":
        numbers = [number_in(word) for word in words[2:]]
        return names_told(desk.late(words[1], numbers[0], numbers[1], numbers[2]))
    if words[0] == "out":
        return names_told(desk.out(words[1], number_in(words[2])))
    return names_told(desk.back(words[1], number_in(words[2])))


def answers_to_now(desk, words):
    desk.wait(moment_of(number_in(words[1]), minute_in(words[2])))
    return [" ".join(words)]


def answers_to_enter(desk, words):
    begin = begin_in(words[4], words[5])
    number = number_in(words[6])
    found = front(desk.net, words[2], words[3], begin, 3, desk.notices)
    if number >= len(found):
        raise NoPlan(None)
    worth = found[number][0]
    desk.enter(words[1], found[number][1])
    return [words[1] + " comes " + moment_text(worth[0]) + " rides " + str(worth[1]) + " price " + str(worth[2])]


def answers_to_plans(desk, words):
    begin = begin_in(words[3], words[4])
    found = front(desk.net, words[1], words[2], begin, 3, desk.notices)
    if len(found) == 0:
        return ["none"]
    return [moment_text(worth[0]) + " " + str(worth[1]) + " " + str(worth[2]) for worth, plan in found]


def begin_in(day_word, clock_word):
    """The moment that two words tell, or None, which is no begin, where they make none."""
    # The front refuses it, as its stops are looked at first.
    day = number_in(day_word)
    minute = minute_in(clock_word)
    try:
        return moment_of(day, minute)
    except BadClock:
        return None


def names_told(told):
    """The lines of who is broken and who is mended."""
    lines = []
    for word, names in zip(["broken", "mended"], told):
        if len(names) > 0:
            lines.append(" ".join([word] + names))
    return lines if len(lines) > 0 else ["nobody"]


def refusal_words(error):
    """The words of a refusal's class."""
    if isinstance(error, BadName):
        return "bad name"
    if isinstance(error, NoStop):
        return "no stop"
    if isinstance(error, NoTrip):
        return "no trip"
    if isinstance(error, NoRun):
        return "no run"
    if isinstance(error, NoTraveller):
        return "no traveller"
    if isinstance(error, BadNumber):
        return "bad number"
    if isinstance(error, BadCalls):
        return "bad calls"
    if isinstance(error, BadClock):
        return "bad clock"
    if isinstance(error, Twice):
        return "twice"
    if isinstance(error, TooMany):
        return "too many"
    if isinstance(error, TooLate):
        return "too late"
    if isinstance(error, NoPlan):
        return "no plan"
    return "bad line"
