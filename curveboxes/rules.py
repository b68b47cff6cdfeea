"""Rules: what is said of the windows of a size."""

from curveboxes.checks import is_pair
from curveboxes.curves import Curve
from curveboxes.errors import BadPlace, BadRule, TooMany, Unlike
from curveboxes.needs import need_many, need_size
from curveboxes.rule_words import RULES, RuleWords
from curveboxes.windows import is_window
from curveboxes.words import words_of

NUMBER = 16


class Rule:
    """What is said of the windows of a size: the base of all rules."""

    @classmethod
    def read(cls, text):
        """The rule with just this text."""
        words = RuleWords(words_of(text))
        words.take_all()
        made = []
        for word, numbers in words.made:
            if word == "not":
                made.append(Not(made.pop()))
            elif word in ("and", "or"):
                other = made.pop()
                made.append(joined(word, made.pop(), other))
            else:
                made.append(simple(word, numbers))
        return made[0]

    @property
    def many(self):
        """How many rules it has, itself counted."""
        return 1 + sum([part.many for part in self.parts()])

    def __and__(self, other):
        return Both(self, other)

    def __or__(self, other):
        return Either(self, other)

    def __invert__(self):
        return Not(self)

    def __eq__(self, other):
        # The text tells the class and all attributes.
        return isinstance(other, Rule) and str(self) == str(other)

    def __str__(self):
        return str(self.told())

    def __call__(self, window):
        if not is_window(window, Curve.MOST) or (window.width, window.height) != (self.width, self.height):
            raise BadRule("window")
        return self.holds_for(window)


class Simple(Rule):
    """A rule without others in it."""

    def parts(self):
        """The rules that it joins: none."""
        return ()


class Joined(Rule):
    """A rule about what other rules say."""

    def __init__(self, *inner):
        if sum([rule.many for rule in inner]) >= RULES:
            raise TooMany("rules", RULES)
        self.inner = inner
        self.width = inner[0].width
        self.height = inner[0].height

    def parts(self):
        """The rules that it joins."""
        return self.inner


class Counting:
    """What rules that tell a number of ranges have in common."""

    def __init__(self, width, height, number):
        need_size(width, height)
        need_many(number, 0, NUMBER)
        self.width = width
        self.height = height
        self.number = number


class Placing:
    """What rules that tell places of the window have in common."""

    def __init__(self, width, height, one):
        need_size(width, height)
        self.width = width
        self.height = height
        self.need_place(one)
        self.one = one

    def need_place(self, place):
        """Raises BadPlace unless it is a place of the window."""
        if not is_pair(place) or not 0 <= place[0] < self.width or not 0 <= place[1] < self.height:
            raise BadPlace(place)

    def index_of(self, place):
        """The index of a place of the window."""
        return place[0] + self.width * place[1]


class AtMost(Simple, Counting):
    """It has at most so many ranges."""

    def __init__(self, width, height, number):
        super().__init__(width, height, number)

    def told(self):
        """Its text."""
        return f"at most {self.number} of {self.width} {self.height}"

    def holds_for(self, window):
        """Whether it holds for a window of its size."""
        return window.ranges <= self.number


class AtLeast(Simple, Counting):
    """It has at least so many ranges."""

    def __init__(self, width, height, number):
        super().__init__(width, height, number)

    def told(self):
        """Its text."""
        return f"at least {self.number} of {self.width} {self.height}"

    def holds_for(self, window):
        """Whether it holds for a window of its size."""
        return window.ranges >= self.number


class Follows(Simple, Placing):
    """The place other follows the place one."""

    def __init__(self, width, height, one, other):
        super().__init__(width, height, one)
        self.need_place(other)
        if other == one:
            raise BadPlace(other)
        self.other = other

    def told(self):
        """Its text."""
        places = f"{self.other[0]} {self.other[1]} follows {self.one[0]} {self.one[1]}"
        return f"{places} of {self.width} {self.height}"

    def holds_for(self, window):
        """Whether it holds for a window of its size."""
        return (self.index_of(self.one), self.index_of(self.other)) in window.follows


class Begins(Simple, Placing):
    """The place one follows no place of the window."""

    def __init__(self, width, height, one):
        super().__init__(width, height, one)

    def told(self):
        """Its text."""
        return f"begins {self.one[0]} {self.one[1]} of {self.width} {self.height}"

    def holds_for(self, window):
        """Whether it holds for a window of its size."""
        return self.index_of(self.one) not in [after for _, after in window.follows]


class Both(Joined):
    """Both rules hold."""

    def __init__(self, one, other):
        need_alike(one, other)
        super().__init__(one, other)
        self.one = one
        self.other = other

    def told(self):
        """Its text."""
        return f"( {self.one} and {self.other} )"

    def holds_for(self, window):
        """Whether it holds for a window of its size."""
        return self.one.holds_for(window) and self.other.holds_for(window)


class Either(Joined):
    """At least one of two rules holds."""

    def __init__(self, one, other):
        need_alike(one, other)
        super().__init__(one, other)
        self.one = one
        self.other = other

    def told(self):
        """Its text."""
        return f"( {self.one} or {self.other} )"

    def holds_for(self, window):
        """Whether it holds for a window of its size."""
        return self.one.holds_for(window) or self.other.holds_for(window)


class Not(Joined):
    """The rule does not hold."""

    def __init__(self, one):
        need_rule(one, "one")
        super().__init__(one)
        self.one = one

    def told(self):
        """Its text."""
        return f"not {self.one}"

    def holds_for(self, window):
        """Whether it holds for a window of its size."""
        return not self.one.holds_for(window)


def need_rule(value, part):
    """Raises BadRule unless it is a rule."""
    if not isinstance(value, Rule):
        raise BadRule(part)


def need_alike(one, other):
    """Raises BadRule or Unlike unless they are rules of one size."""
    need_rule(one, "one")
    need_rule(other, "other")
    if (one.width, one.height) != (other.width, other.height):
        raise Unlike("size")


def joined(word, one, other):
    """The rule that this word makes of two."""
    if word == "and":
        return Both(one, other)
    return Either(one, other)


def simple(word, numbers):
    """The rule that this word makes of numbers, which begin with the size."""
    width, height, *rest = numbers
    if word == "most":
        return AtMost(width, height, rest[0])
    if word == "least":
        return AtLeast(width, height, rest[0])
    if word == "begins":
        return Begins(width, height, (rest[0], rest[1]))
    return Follows(width, height, (rest[0], rest[1]), (rest[2], rest[3]))
