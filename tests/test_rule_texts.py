"""The texts of rules, written and read."""

import itertools
import random
import unittest

from curveboxes.errors import BadMany, BadPlace, BadText, TooMany, Unlike
from curveboxes.rules import AtLeast, AtMost, Begins, Both, Either, Follows, Not, Rule
from tests.values import HUGE, NEGATIVE, OWN, STRANGE, raised

WRONG = [*OWN, *HUGE, *NEGATIVE, *[value for value in STRANGE if not isinstance(value, str)]]
WORDS = ("at", "most", "least", "of", "begins", "follows", "(", ")", "and", "or", "not", "0", "2", "16", "17", "", "x")


def some_rule(chance, deep):
    if deep and chance.random() < 0.7:
        one = some_rule(chance, deep - 1)
        kind = chance.choice([Both, Either, Not])
        return kind(one) if kind is Not else kind(one, some_rule(chance, deep - 1))
    places = chance.sample([(x, y) for x in range(3) for y in range(2)], 2)
    return chance.choice([
        AtMost(3, 2, chance.randrange(17)), AtLeast(3, 2, chance.randrange(17)), Follows(3, 2, *places), Begins(3, 2, places[0]),
    ])


def can_stand(words):
    """How many words, from the first one on, are the beginning of a rule; whether all of them are a rule."""
    # What is still to come, the next part last.
    todo = ["rule"]
    begun = 0
    for at, word in enumerate(words):
        if not todo:
            return at, False
        part = todo.pop()
        if part == "rule":
            begun += 1
            heads = {
                "(": [")", "rule", "joint", "rule"], "not": ["rule"], "at": ["number", "number", "of", "number", "kind"],
                "begins": ["number", "number", "of", "number", "number"],
            }
            if begun > 30:
                return at, False
            if word in heads:
                todo += heads[word]
            elif word in [str(n) for n in range(17)]:
                todo += ["number", "number", "of", "number", "number", "follows", "number"]
            else:
                return at, False
        elif part == "number":
            if word not in [str(n) for n in range(17)]:
                return at, False
        elif part == "joint":
            if word not in ("and", "or"):
                return at, False
        elif part == "kind":
            if word not in ("most", "least"):
                return at, False
        elif word != part:
            return at, False
    return len(words), not todo


class Texts(unittest.TestCase):
    def test_each_kind(self):
        for rule, text in (
            (AtMost(2, 2, 3), "at most 3 of 2 2"), (AtLeast(2, 1, 2), "at least 2 of 2 1"),
            (Follows(2, 2, (0, 0), (1, 0)), "1 0 follows 0 0 of 2 2"), (Begins(2, 2, (1, 0)), "begins 1 0 of 2 2"),
            (Both(AtMost(2, 2, 3), Begins(2, 2, (1, 0))), "( at most 3 of 2 2 and begins 1 0 of 2 2 )"),
            (Either(AtMost(1, 16, 16), AtLeast(1, 16, 0)), "( at most 16 of 1 16 or at least 0 of 1 16 )"),
            (Not(Begins(16, 1, (15, 0))), "not begins 15 0 of 16 1"),
            (Not(Not(Follows(1, 3, (0, 2), (0, 1)))), "not not 0 1 follows 0 2 of 1 3"),
        ):
            self.assertEqual(str(rule), text)
            for kind in (Rule, AtMost, Both, type(rule)):
                found = kind.read(text=text)
                self.assertEqual(found, rule)
                self.assertIs(type(found), type(rule))

    def test_written_and_read(self):
        chance = random.Random(1)
        for _ in range(300):
            rule = some_rule(chance, 4)
            found = Rule.read(str(rule))
            self.assertEqual((found, str(found), found.many), (rule, str(rule), rule.many))

    def test_thirty_and_thirty_one_rules(self):
        self.assertEqual(Rule.read("not " * 29 + "at most 1 of 1 1").many, 30)
        raised(self, BadText, (0, 30), Rule.read, "not " * 30 + "at most 1 of 1 1")
        raised(self, BadText, (0, 30), Rule.read, "( " * 40)
        raised(self, BadText, (0, 30), Rule.read, "not " * 29 + "( at most 1 of 1 1 and at most 1 of 1 1 )")
        text = "at most 1 of 1 1"
        for _ in range(14):
            text = f"( {text} and begins 0 0 of 1 1 )"
        self.assertEqual(Rule.read(f"not {text}").many, 30)
        # In the longer text the last rule is the thirty-first.
        longer = f"( {text} or begins 0 0 of 1 1 )".split(" ")
        raised(self, BadText, (0, len(longer) - 7), Rule.read, " ".join(longer))

    def test_what_is_no_text(self):
        for value in WRONG:
            raised(self, BadText, (0, 0), Rule.read, value)

    def test_missing_words(self):
        for text in (
            "at most 3 of 2 2", "1 0 follows 0 0 of 2 2", "begins 1 0 of 2 2", "not at least 3 of 2 2",
            "( at most 3 of 2 2 and not ( begins 1 0 of 2 2 or 0 1 follows 1 0 of 2 2 ) )",
        ):
            words = text.split(" ")
            for at in range(1, len(words)):
                raised(self, BadText, (0, at), Rule.read, " ".join(words[:at]))
            for more in WORDS:
                raised(self, BadText, (0, len(words)), Rule.read, f"{text} {more}")
        raised(self, BadText, (0, 0), Rule.read, "")

    def test_exchanged_and_wrong_words(self):
        chance = random.Random(2)
        texts = [str(some_rule(chance, 3)) for _ in range(40)]
        for text in texts:
            words = text.split(" ")
            for _ in range(60):
                wrong = list(words)
                at = chance.randrange(len(words))
                deed = chance.randrange(4)
                if deed == 0:
                    wrong[at] = chance.choice(WORDS)
                elif deed == 1:
                    del wrong[at]
                elif deed == 2:
                    wrong.insert(at, chance.choice(WORDS))
                else:
                    to = chance.randrange(len(words))
                    wrong[at], wrong[to] = wrong[to], wrong[at]
                many, is_whole = can_stand(wrong)
                if wrong != [] and not is_whole:
                    raised(self, BadText, (0, many), Rule.read, " ".join(wrong))

    def test_all_texts_of_few_words(self):
        for many in range(1, 4):
            for words in itertools.product(WORDS, repeat=many):
                raised(self, BadText, (0, can_stand(words)[0]), Rule.read, " ".join(words))

    def test_numbers(self):
        for word in ("17", "-1", "03", "+3", "3.", " 3", "x", "", "1e1", "9" * 3000, "True"):
            raised(self, BadText, (0, 2), Rule.read, f"at most {word} of 2 2")
            raised(self, BadText, (0, 4), Rule.read, f"at most 1 of {word} 2")
            raised(self, BadText, (0, 5), Rule.read, f"at most 1 of 2 {word}")
            raised(self, BadText, (0, 0), Rule.read, f"{word} 0 follows 0 0 of 2 2")
            raised(self, BadText, (0, 1), Rule.read, f"begins {word} 0 of 2 2")
        for text in ("at  most 1 of 2 2", "At most 1 of 2 2", "at most 1 of 2 2 ", " at most 1 of 2 2", "at most 1 of 2\n2"):
            words = text.split(" ")
            raised(self, BadText, (0, can_stand(words)[0]), Rule.read, text)


class Raised(unittest.TestCase):
    """When all words can stand the classes raise, parts ahead of the whole, the left ones first."""

    def test_as_the_classes(self):
        raised(self, BadMany, (0,), Rule.read, "at most 3 of 0 2")
        raised(self, BadMany, (0,), Rule.read, "at least 16 of 2 0")
        raised(self, TooMany, ("cells", 16), Rule.read, "at most 3 of 16 2")
        raised(self, TooMany, ("cells", 16), Rule.read, "16 16 follows 16 16 of 4 5")
        raised(self, BadPlace, ((0, 2),), Rule.read, "16 0 follows 0 2 of 2 2")
        raised(self, BadPlace, ((2, 0),), Rule.read, "2 0 follows 0 1 of 2 2")
        raised(self, BadPlace, ((0, 1),), Rule.read, "0 1 follows 0 1 of 2 2")
        raised(self, BadPlace, ((16, 0),), Rule.read, "begins 16 0 of 16 1")
        raised(self, Unlike, ("size",), Rule.read, "( at most 1 of 2 2 or at most 1 of 2 1 )")

    def test_the_order(self):
        raised(self, BadPlace, ((9, 0),), Rule.read, "( begins 9 0 of 2 2 and begins 8 0 of 2 2 )")
        raised(self, BadPlace, ((8, 0),), Rule.read, "( begins 0 0 of 2 1 and begins 8 0 of 2 2 )")
        inner = "( at most 1 of 1 1 and at most 1 of 1 2 )"
        raised(self, Unlike, ("size",), Rule.read, f"( {inner} or begins 7 7 of 1 1 )")
        raised(self, BadPlace, ((7, 7),), Rule.read, f"( begins 7 7 of 1 1 or {inner} )")
        raised(self, BadPlace, ((7, 7),), Rule.read, f"( at most 1 of 2 2 or ( at most 1 of 1 1 and begins 7 7 of 1 2 ) )")
        # A word that cannot stand is told ahead of all of these.
        raised(self, BadText, (0, 15), Rule.read, "( begins 9 0 of 2 2 and at most 1 of 0 0 ) )")


if __name__ == "__main__":
    unittest.main()
