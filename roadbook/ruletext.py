"""A rule's text, both ways."""

from roadbook.errors import BadRule, TooMany
from roadbook.figures import number_by
from roadbook.rules import MOST_DEPTH, WEEK_DAYS, Both, But, Each, Either, Rule, Span, Week


def rule_text(rule):
    """A rule's words with a blank between."""
    if not isinstance(rule, Rule):
        raise BadRule("no rule")
    return " ".join(rule.words())


def rule_of(text):
    """The rule that a text tells."""
    if not isinstance(text, str):
        raise BadRule("no text")
    # Reversed, so that pop takes the word that comes first.
    left = list(reversed(text.split(" ")))
    try:
        rule = rule_from(left, MOST_DEPTH)
    except TooMany:
        raise BadRule("weighs too much") from None
    if len(left) > 0:
        raise BadRule("words behind the rule")
    return rule


def rule_from(left, deep):
    """The rule at the head of the words that are left, at most so many deep."""
    # Asked here, too, so that no text leads deeper into this function than a rule may be.
    if deep == 0:
        raise BadRule("too deep")
    word = word_from(left)
    if word == "always":
        return Rule()
    if word == "week":
        return Week(bits_from(left))
    if word == "span":
        return Span(number_from(left), number_from(left), rule_from(left, deep - 1))
    if word == "each":
        return Each(number_from(left), numbers_from(left))
    if word == "either":
        return Either(rule_from(left, deep - 1), rule_from(left, deep - 1))
    if word == "both":
        return Both(rule_from(left, deep - 1), rule_from(left, deep - 1))
    if word == "but":
        return But(numbers_from(left), rule_from(left, deep - 1))
    raise BadRule("no such word")


def word_from(left):
    if len(left) == 0:
        raise BadRule("a word is missing")
    return left.pop()


def number_from(left):
    # A word that is no number makes None here and below, which the rule itself refuses.
    return number_by(word_from(left))


def numbers_from(left):
    return [number_by(part) for part in word_from(left).split(",")]


def bits_from(left):
    signs = word_from(left)
    if len(signs) != WEEK_DAYS:
        raise BadRule("a week has seven signs")
    bits = 0
    for weekday, sign in enumerate(signs):
        if sign not in ("0", "1"):
            raise BadRule("a week's signs are 0 and 1")
        bits = bits + (int(sign) << weekday)
    return bits
