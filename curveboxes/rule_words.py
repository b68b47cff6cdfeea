"""The words of rules."""

from curveboxes.errors import BadText

RULES = 30
NUMBERS = ("0", "1", "2", "3", "4", "5", "6", "7", "8", "9", "10", "11", "12", "13", "14", "15", "16")


class RuleWords:
    """Goes through words and notes in `made` what is to be made of them, parts ahead of the whole.

    Each is a pair of a word and a tuple of numbers; `and`, `or` and `not` join the rules that were made last.
    """

    def __init__(self, words):
        self.words = words
        self.at = 0
        self.opened = 0
        self.made = []

    def take_all(self):
        """Goes through all words, which have to be one rule."""
        self.take_rule()
        if self.at < len(self.words):
            raise BadText(0, self.at)

    def word_from(self, told):
        """The next word, which has to be one of those told."""
        if self.at == len(self.words) or self.words[self.at] not in told:
            raise BadText(0, self.at)
        self.at += 1
        return self.words[self.at - 1]

    def take_number(self):
        """The next word as a number."""
        return int(self.word_from(NUMBERS))

    def take_two(self, word):
        """The two numbers behind the next word, which has to be this one."""
        self.word_from((word,))
        return self.take_number(), self.take_number()

    def take_rule(self):
        """Goes through the words of a rule."""
        if self.opened == RULES:
            raise BadText(0, self.at)
        self.opened += 1
        word = self.word_from(("(", "not", "at", "begins", *NUMBERS))
        if word == "(":
            self.take_joined()
        elif word == "not":
            self.take_rule()
            self.made.append((word, ()))
        else:
            self.take_simple(word)

    def take_simple(self, word):
        """Goes through the words of a rule without others in it, behind the first one."""
        if word == "at":
            kind = self.word_from(("most", "least"))
            told = (self.take_number(),)
        elif word == "begins":
            kind = word
            told = (self.take_number(), self.take_number())
        else:
            kind = "follows"
            other = (int(word), self.take_number())
            one = self.take_two("follows")
            told = (*one, *other)
        size = self.take_two("of")
        self.made.append((kind, (*size, *told)))

    def take_joined(self):
        """Goes through the words of two rules and those around them, behind the first one."""
        self.take_rule()
        word = self.word_from(("and", "or"))
        self.take_rule()
        self.word_from((")",))
        self.made.append((word, ()))
