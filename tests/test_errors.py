"""Errors and papers: their fields, and what stands below what."""

import unittest

from helpers import odd_values, same
from sumdigits import errors
from sumdigits.alike import Alike, Apart
from sumdigits.errors import SumError
from sumdigits.noughts import Nought, Somewhere
from sumdigits.papers import Verdict

FIELDS = {
    "BadBase": ["value"], "BadWidth": ["value"], "BadName": ["value"], "BadWord": ["value"], "BadNumber": ["value"],
    "BadWeight": ["value"], "BadLetter": ["value"], "BadPlace": ["value"], "BadTable": ["part"],
    "BadScheme": ["part"], "BadPlane": ["part"], "BadPaper": ["part"], "BadStore": ["part"], "BadDeed": ["at"],
    "BadText": ["line", "word"], "BadCommand": ["word"], "NoState": ["value"], "NoEntry": ["value"],
    "NoPlane": ["value"], "Unlike": ["part"], "Taken": ["value"], "Nothing": [], "TooMany": ["what", "most"]}


class Errors(unittest.TestCase):
    def test_each_stands_directly_below_the_base(self):
        self.assertEqual(SumError.__bases__, (ValueError,))
        for name in FIELDS:
            self.assertEqual(getattr(errors, name).__bases__, (SumError,), name)
            self.assertEqual(getattr(errors, name).__module__, "sumdigits.errors")
            self.assertEqual(getattr(errors, name).__name__, name)

    def test_there_are_no_others(self):
        own = [value for value in vars(errors).values() if isinstance(value, type) and issubclass(value, SumError)]
        self.assertEqual(len(own), len(FIELDS) + 1)

    def test_fields_in_order_and_by_name(self):
        for name, fields in FIELDS.items():
            for value in odd_values():
                values = [value, "other"][:len(fields)]
                for made in (getattr(errors, name)(*values), getattr(errors, name)(**dict(zip(fields, values)))):
                    self.assertTrue(same(vars(made), dict(zip(fields, values))), name)

    def test_two_fields_are_not_mixed_up(self):
        self.assertEqual(vars(errors.BadText(3, 4)), {"line": 3, "word": 4})
        self.assertEqual(vars(errors.BadText(word=3, line=4)), {"line": 4, "word": 3})
        self.assertEqual(vars(errors.TooMany("states", 40)), {"what": "states", "most": 40})
        self.assertEqual(vars(errors.TooMany(most=40, what="states")), {"what": "states", "most": 40})

    def test_other_numbers_of_fields_are_not_taken(self):
        for name, fields in FIELDS.items():
            if fields:
                self.assertRaises(TypeError, getattr(errors, name))
                self.assertRaises(TypeError, getattr(errors, name), *range(len(fields) + 1))

    def test_they_are_raised_and_caught(self):
        for name, fields in FIELDS.items():
            with self.assertRaises(SumError):
                raise getattr(errors, name)(*fields)


class Papers(unittest.TestCase):
    def test_which_are_verdicts(self):
        for paper in (Nought, Somewhere, Alike, Apart):
            self.assertTrue(issubclass(paper, Verdict))
            for method in ("__eq__", "__bool__"):
                self.assertIn(method, vars(paper))

    def test_yes_and_no(self):
        self.assertIs(bool(Nought((), {})), True)
        self.assertIs(bool(Alike((), {})), True)
        self.assertIs(bool(Somewhere((), 1)), False)
        self.assertIs(bool(Apart((), 1, 2)), False)

    def test_any_values_are_kept(self):
        for value in odd_values():
            self.assertTrue(same(vars(Nought(value, 5)), {"readings": value, "factors": 5}))
            self.assertTrue(same(vars(Nought(factors=value, readings=5)), {"readings": 5, "factors": value}))
            self.assertTrue(same(vars(Alike(value, 5)), {"readings": value, "factors": 5}))
            self.assertTrue(same(vars(Alike(factors=value, readings=5)), {"readings": 5, "factors": value}))
            self.assertTrue(same(vars(Somewhere(value, 5)), {"words": value, "value": 5}))
            self.assertTrue(same(vars(Somewhere(value=value, words=5)), {"words": 5, "value": value}))
            self.assertTrue(same(vars(Apart(value, 5, 6)), {"words": value, "one": 5, "other": 6}))
            self.assertTrue(same(vars(Apart(other=value, one=5, words=6)), {"words": 6, "one": 5, "other": value}))

    def test_equality(self):
        for paper in (Nought, Alike, Somewhere):
            self.assertEqual(paper((1,), "a"), paper((1,), "a"))
            self.assertNotEqual(paper((1,), "a"), paper((2,), "a"))
            self.assertNotEqual(paper((1,), "a"), paper((1,), "b"))
            self.assertNotEqual(paper((1,), "a"), paper([1], "a"))
        self.assertEqual(Apart(1, 2, 3), Apart(1, 2, 3))
        for other in (Apart(0, 2, 3), Apart(1, 0, 3), Apart(1, 2, 0)):
            self.assertNotEqual(Apart(1, 2, 3), other)
        self.assertNotEqual(Nought((), {}), Alike((), {}))
        for value in odd_values():
            self.assertFalse(Alike(1, 2) == value)
            self.assertTrue(Alike(1, 2) != value)


if __name__ == "__main__":
    unittest.main()
