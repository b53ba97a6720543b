"""Errors and papers: their fields, and what stands below what."""

import unittest

from helpers import odd_values, same
from sumdigits import errors
from sumdigits.alike import Alike, Apart
from sumdigits.cuts import Torn, Whole
from sumdigits.errors import SumError
from sumdigits.greatest import Covered, Uncovered
from sumdigits.judged import Right, Wrong
from sumdigits.noughts import Nought, Somewhere
from sumdigits.papers import Verdict
from sumdigits.ranks import Rank
from sumdigits.ways import OneWay, TwoWays

FIELDS = {
    "BadBase": ["value"], "BadWidth": ["value"], "BadName": ["value"], "BadWord": ["value"], "BadNumber": ["value"],
    "BadWeight": ["value"], "BadLetter": ["value"], "BadPlace": ["value"], "BadTable": ["part"],
    "BadScheme": ["part"], "BadPlane": ["part"], "BadPaper": ["part"], "BadStore": ["part"], "BadDeed": ["at"],
    "BadText": ["line", "word"], "BadCommand": ["word"], "NoState": ["value"], "NoEntry": ["value"],
    "NoPlane": ["value"], "Unlike": ["part"], "Taken": ["value"], "Nothing": [], "TooMany": ["what", "most"]}


class Errors(unittest.TestCase):
    def test_each_stands_directly_below_the_base(self):
        self.assertEqual(SumError.__bases__, (ValueError,))
        for name in FIELDS:
            self.assertEqual(getattr(errors, name).__bases__, (SumError,), name)
            self.assertEqual(getattr(errors, name).__module__, "sumdigits.errors")
            self.assertEqual(getattr(errors, name).__name__, name)

    def test_there_are_no_others(self):
        own = [value for value in vars(errors).values() if isinstance(value, type) and issubclass(value, SumError)]
        self.assertEqual(len(own), len(FIELDS) + 1)

    def test_fields_in_order_and_by_name(self):
        for name, fields in FIELDS.items():
            for value in odd_values():
                values = [value, "other"][:len(fields)]
                for made in (getattr(errors, name)(*values), getattr(errors, name)(**dict(zip(fields, values)))):
                    self.assertTrue(same(vars(made), dict(zip(fields, values))), name)

    def test_two_fields_are_not_mixed_up(self):
        self.assertEqual(vars(errors.BadText(3, 4)), {"line": 3, "word": 4})
        self.assertEqual(vars(errors.BadText(word=3, line=4)), {"line": 4, "word": 3})
        self.assertEqual(vars(errors.TooMany("states", 40)), {"what": "states", "most": 40})
        self.assertEqual(vars(errors.TooMany(most=40, what="states")), {"what": "states", "most": 40})

    def test_other_numbers_of_fields_are_not_taken(self):
        for name, fields in FIELDS.items():
            if fields:
                self.assertRaises(TypeError, getattr(errors, name))
                self.assertRaises(TypeError, getattr(errors, name), *range(len(fields) + 1))

    def test_they_are_raised_and_caught(self):
        for name, fields in FIELDS.items():
            with self.assertRaises(SumError):
                raise getattr(errors, name)(*fields)


PAPERS = [
    (Nought, ["readings", "factors"], True), (Somewhere, ["words", "value"], False),
    (Alike, ["readings", "factors"], True), (Apart, ["words", "one", "other"], False),
    (Right, ["readings", "factors"], True), (Wrong, ["entry", "question", "told", "due"], False),
    (Whole, ["readings", "factors"], True), (Torn, ["entry", "question", "cell", "worth"], False),
    (Covered, ["pairs"], True), (Uncovered, ["entry", "question", "told", "due"], False),
    (OneWay, [], True), (TwoWays, ["words"], False), (Rank, ["number", "ahead", "behind"], None)]


class Papers(unittest.TestCase):
    def test_which_are_verdicts(self):
        for paper, fields, verdict in PAPERS:
            self.assertIs(issubclass(paper, Verdict), verdict is not None)
            self.assertIn("__eq__", vars(paper))
            if verdict is not None:
                self.assertIn("__bool__", vars(paper))
                self.assertIs(bool(paper(*fields)), verdict)

    def test_any_values_are_kept(self):
        for paper, fields, _ in PAPERS:
            for value in odd_values():
                for at in range(len(fields)):
                    values = [value if place == at else place for place in range(len(fields))]
                    due = dict(zip(fields, values))
                    self.assertTrue(same(vars(paper(*values)), due))
                    self.assertTrue(same(vars(paper(**dict(reversed(due.items())))), due))

    def test_equality(self):
        for paper, fields, _ in PAPERS:
            values = list(range(len(fields)))
            self.assertTrue(paper(*values) == paper(*values))
            self.assertFalse(paper(*values) != paper(*values))
            for at in range(len(fields)):
                for other in (77, [at], (at,), None, "0"):
                    self.assertFalse(paper(*values) == paper(*values[:at], other, *values[at + 1:]))
            for value in odd_values() + [tuple(values), values]:
                if not (isinstance(value, paper) and paper is OneWay):
                    self.assertFalse(paper(*values) == value)
                    self.assertTrue(paper(*values) != value)

    def test_papers_of_another_class_are_not_equal(self):
        for one, fields, _ in PAPERS:
            for other, others, _ in PAPERS:
                if one is not other:
                    self.assertFalse(one(*fields) == other(*others))
                    self.assertTrue(one(*fields) != other(*others))


if __name__ == "__main__":
    unittest.main()
