"""Days, minutes of the timetable and moments, and their texts."""

from roadbook.errors import BadClock
from roadbook.figures import are_figures, is_number, number_by

LAST_DAY = 9999
DAY_MINUTES = 1440
HOUR_MINUTES = 60
LAST_MINUTE = 2879
LAST_MOMENT = 14399999
LAST_BEGIN = 14000000


def two_figures(number):
    return str(number).zfill(2)


def clock_text(minute):
    """A minute of the timetable as HH:MM."""
    if not is_number(minute, 0, LAST_MINUTE):
        raise BadClock("no minute of the timetable")
    return two_figures(minute // HOUR_MINUTES) + ":" + two_figures(minute % HOUR_MINUTES)


def has_clock_form(text):
    if not isinstance(text, str) or len(text) != 5:
        return False
    return text[2] == ":" and are_figures(text[:2] + text[3:])


def minute_of(text):
    """The minute of the timetable that HH:MM tells."""
    if not has_clock_form(text):
        raise BadClock("no HH:MM")
    minutes = int(text[3:])
    if minutes >= HOUR_MINUTES:
        raise BadClock("an hour has 60 minutes")
    minute = int(text[:2]) * HOUR_MINUTES + minutes
    if minute > LAST_MINUTE:
        raise BadClock("beyond 47:59")
    return minute


def moment_of(day, minute):
    """The moment of a day and a minute below 1440."""
    if not is_number(day, 0, LAST_DAY):
        raise BadClock("no day")
    if not is_number(minute, 0, DAY_MINUTES - 1):
        raise BadClock("no minute of a day")
    return day * DAY_MINUTES + minute


def day_and_minute(moment):
    """A moment's day, and its minute below 1440."""
    if not is_number(moment, 0, LAST_MOMENT):
        raise BadClock("no moment")
    return (moment // DAY_MINUTES, moment % DAY_MINUTES)


def moment_text(moment):
    """A moment as its day and HH:MM."""
    parts = day_and_minute(moment)
    return str(parts[0]) + " " + clock_text(parts[1])


def moment_by(text):
    """The moment that a day and HH:MM tell."""
    if not isinstance(text, str):
        raise BadClock("no text")
    words = text.split(" ")
    if len(words) != 2:
        raise BadClock("no day and HH:MM")
    # A word that is no number tells None, which moment_of refuses.
    return moment_of(number_by(words[0]), minute_of(words[1]))


def check_begin(begin):
    """Refuses what is no moment at which a journey may begin."""
    if not is_number(begin, 0, LAST_BEGIN):
        raise BadClock("no moment to begin at")
