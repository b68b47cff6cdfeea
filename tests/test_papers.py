"""Papers: made of any values, kept, compared, true or false."""

import unittest

from curveboxes.chains import Pages
from curveboxes.covers import Cover
from curveboxes.joints import Far, Near
from curveboxes.judging import Always, Breach, Numbers, Twin
from curveboxes.kin import Apart, Same
from curveboxes.stores import Scan
from curveboxes.windows import Window
from tests.examples import same
from tests.values import HUGE, NEGATIVE, OWN, STRANGE

FIELDS = {
    Same: (), Apart: ("level", "key"), Cover: ("spans", "over"), Near: ("joints",), Far: ("level", "key"),
    Pages: ("shapes", "tables"), Window: ("width", "height", "states", "follows"),
    Always: ("tables",), Breach: ("level", "x", "y"), Numbers: ("rows", "tables"), Twin: ("one", "other"),
    Scan: ("rows", "seeks", "passed"),
}
FALSE = (Apart, Far, Breach)
ANY = [*STRANGE, *NEGATIVE, *HUGE, *OWN, Same(), Apart(1, 2), "x" * 3000, {(1, 1): (Near(()),)}, [[1], ({2: []},)]]


def filled(fields, at):
    return [ANY[(at + step) % len(ANY)] for step in range(len(fields))]


class Papers(unittest.TestCase):
    def test_kept_under_the_names_of_the_parameters(self):
        for paper, fields in FIELDS.items():
            for at in range(len(ANY)):
                values = filled(fields, at)
                named = dict(zip(fields, values))
                backwards = dict(reversed(list(named.items())))
                for made in (paper(*values), paper(**named), paper(**backwards)):
                    self.assertEqual(sorted(vars(made)), sorted(fields))
                    for field, value in named.items():
                        self.assertTrue(same(getattr(made, field), value), (paper, field))

    def test_equal_to_the_same_alone(self):
        for paper, fields in FIELDS.items():
            for at in range(len(ANY)):
                values = filled(fields, at)
                made = paper(*values)
                self.assertIs(made == paper(*values), True)
                self.assertIs(made != paper(*values), False)
                for field in range(len(fields)):
                    other = paper(*values[:field], "something else", *values[field + 1:])
                    self.assertIs(made == other, False)
                    self.assertIs(made != other, True)
                for other in [*ANY, tuple(values), values, paper, *[kind(*filled(FIELDS[kind], at)) for kind in FIELDS]]:
                    if type(other) is not paper:
                        self.assertIs(made == other, False)
                        self.assertIs(other == made, False)

    def test_truth(self):
        for paper, fields in FIELDS.items():
            for value in (None, 0, 5, (), [], "", False):
                self.assertIs(bool(paper(*[value] * len(fields))), paper not in FALSE)

    def test_what_is_done_to_an_argument_later(self):
        for paper, fields in FIELDS.items():
            for field in range(len(fields)):
                inner = {"a": [1]}
                rows = [inner, (2, [3])]
                values = [0] * len(fields)
                values[field] = rows
                made = paper(*values)
                told = [{"a": [1]}, (2, [3])]
                inner["b"] = 2
                rows[1][1].append(4)
                rows.append(5)
                self.assertEqual(getattr(made, fields[field]), told)

    def test_wrong_numbers_of_arguments(self):
        for paper, fields in FIELDS.items():
            with self.assertRaises(TypeError):
                paper(*range(len(fields) + 1))
            if fields:
                with self.assertRaises(TypeError):
                    paper(*range(len(fields) - 1))


if __name__ == "__main__":
    unittest.main()
