"""Desks: they take lines of words and answer with strings."""

from curveboxes.answers import answered
from curveboxes.errors import CurveError
from curveboxes.makers import laced
from curveboxes.stores import Store


class Desk:
    """Keeps a store, first an empty one of the laced curve and the level 0."""

    def __init__(self):
        self.store = Store(laced(), 0)

    def ask(self, line):
        """The answer to a line."""
        return answered(self.store, line)

    def __call__(self, line):
        return self.ask(line)

    def run(self, *lines):
        """The list of the answers to some lines; if a line raises an error, none of them has an effect."""
        store = self.store.twin()
        answers = []
        try:
            for line in lines:
                answers.append(self.ask(line))
        except CurveError:
            self.store = store
            raise
        return answers

    def store_now(self):
        """A twin of its store."""
        return self.store.twin()
