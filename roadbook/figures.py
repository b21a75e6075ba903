"""Numbers, lists of rising ones, figures and names: what the other files ask of values handed in."""

from roadbook.errors import BadNumber

FIGURES = "0123456789"
MOST_FIGURES = 5
LETTERS = "abcdefghijklmnopqrstuvwxyz"
MOST_LETTERS = 8


def is_any_number(value):
    """Whether it is a whole number."""
    # Python counts True and False among the whole numbers; the document doesn't.
    return isinstance(value, int) and not isinstance(value, bool)


def is_number(value, least, most):
    """Whether it is a whole number within these bounds, both counted."""
    return is_any_number(value) and least <= value <= most


def check_number(value, least, most):
    if not is_number(value, least, most):
        raise BadNumber("no number, or out of its bounds")


def are_rising(values, longest, least, most):
    """Whether it is a list of 1 to so many rising numbers, each within the bounds."""
    if not isinstance(values, list) or not 1 <= len(values) <= longest:
        return False
    floor = least
    for value in values:
        if not is_number(value, floor, most):
            return False
        floor = value + 1
    return True


def are_figures(text):
    """Whether a text has figures alone, and one at least."""
    # Not isdigit: that takes figures of other scripts, too.
    return text != "" and all([sign in FIGURES for sign in text])


def number_by(text):
    """The number that a word tells, or None where it tells none."""
    if len(text) > MOST_FIGURES or not are_figures(text):
        return None
    if text[0] == "0" and text != "0":
        return None
    return int(text)


def is_name(value):
    """Whether it is a text of 1 to 8 letters a to z."""
    if not isinstance(value, str) or not 1 <= len(value) <= MOST_LETTERS:
        return False
    return all([sign in LETTERS for sign in value])


def is_known(value, named):
    """Whether it is one of the names of a dict."""
    # The kind is asked first: a list, say, can't be looked for in a dict.
    return isinstance(value, str) and value in named
