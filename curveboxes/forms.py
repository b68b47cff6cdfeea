"""What can stand in the lines of a desk."""

from curveboxes.curves import Curve, rows_in, wrong_word
from curveboxes.errors import BadLine, BadText
from curveboxes.needs import SIDE
from curveboxes.rules import Rule
from curveboxes.words import number_in

MOST = 10 ** 62 - 1
MAKERS = ("laced", "cup", "turning", "ring")


def values_in(words, form):
    """The list of what the words behind the first one tell, by the kinds of a form.

    The kinds are "number", "side", "maker", each of one word, and "curve", "rule", which stand alone, of all words.
    """
    if form == ("curve",):
        return [curve_in(words[1:])]
    if form == ("rule",):
        return [rule_in(words[1:])]
    found = []
    for kind in form:
        at = len(found) + 1
        value = value_in(words[at], kind) if at < len(words) else None
        if value is None:
            raise BadLine(at)
        found.append(value)
    if len(words) > len(form) + 1:
        raise BadLine(len(form) + 1)
    return found


def value_in(word, kind):
    """What a word of a kind tells, or None if it cannot stand."""
    if kind == "number":
        return number_in(word, 0, MOST)
    if kind == "side":
        return number_in(word, 1, SIDE)
    return word if word in MAKERS else None


def curve_in(words):
    """The curve that words behind a first one tell."""
    wrong = wrong_word(words)
    if wrong is not None:
        raise BadLine(1 + wrong)
    rows = rows_in(words)
    return Curve(*rows)


def rule_in(words):
    """The rule that words behind a first one tell."""
    try:
        return Rule.read(" ".join(words))
    except BadText as wrong:
        raise BadLine(1 + wrong.word) from None
