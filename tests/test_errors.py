"""Errors and papers: their fields, and what stands below what."""

import unittest

from helpers import odd_values, same
from sumdigits import errors
from sumdigits.alike import Alike, Apart
from sumdigits.cuts import Torn, Whole
from sumdigits.errors import SumError
from sumdigits.greatest import Covered, Uncovered
from sumdigits.judged import Right, Wrong
from sumdigits.noughts import Nought, Somewhere
from sumdigits.papers import Verdict
from sumdigits.ranks import Rank
from sumdigits.spaces import Rows
from sumdigits.ways import OneWay, TwoWays
from sumdigits.words import is_word, reading

FIELDS = {
    "BadBase": ["value"], "BadWidth": ["value"], "BadName": ["value"], "BadWord": ["value"], "BadNumber": ["value"],
    "BadWeight": ["value"], "BadLetter": ["value"], "BadPlace": ["value"], "BadTable": ["part"],
    "BadScheme": ["part"], "BadPlane": ["part"], "BadPaper": ["part"], "BadStore": ["part"], "BadDeed": ["at"],
    "BadText": ["line", "word"], "BadCommand": ["word"], "NoState": ["value"], "NoEntry": ["value"],
    "NoPlane": ["value"], "Unlike": ["part"], "Taken": ["value"], "Nothing": [], "TooMany": ["what", "most"]}


class Errors(unittest.TestCase):
    def test_each_stands_directly_below_the_base(self):
        self.assertEqual(SumError.__bases__, (ValueError,))
        for name in FIELDS:
            self.assertEqual(getattr(errors, name).__bases__, (SumError,), name)
            self.assertEqual(getattr(errors, name).__module__, "sumdigits.errors")
            self.assertEqual(getattr(errors, name).__name__, name)

    def test_there_are_no_others(self):
        own = [value for value in vars(errors).values() if isinstance(value, type) and issubclass(value, SumError)]
        self.assertEqual(len(own), len(FIELDS) + 1)

    def test_fields_in_order_and_by_name(self):
        for name, fields in FIELDS.items():
            for value in odd_values():
                values = [value, "other"][:len(fields)]
                for made in (getattr(errors, name)(*values), getattr(errors, name)(**dict(zip(fields, values)))):
                    self.assertTrue(same(vars(made), dict(zip(fields, values))), name)

    def test_two_fields_are_not_mixed_up(self):
        self.assertEqual(vars(errors.BadText(3, 4)), {"line": 3, "word": 4})
        self.assertEqual(vars(errors.BadText(word=3, line=4)), {"line": 4, "word": 3})
        self.assertEqual(vars(errors.TooMany("states", 40)), {"what": "states", "most": 40})
        self.assertEqual(vars(errors.TooMany(most=40, what="states")), {"what": "states", "most": 40})

    def test_other_numbers_of_fields_are_not_taken(self):
        for name, fields in FIELDS.items():
            if fields:
                self.assertRaises(TypeError, getattr(errors, name))
                self.assertRaises(TypeError, getattr(errors, name), *range(len(fields) + 1))

    def test_they_are_raised_and_caught(self):
        for name, fields in FIELDS.items():
            with self.assertRaises(SumError):
                raise getattr(errors, name)(*fields)


PAPERS = [
    (Nought, ["readings", "factors"], True), (Somewhere, ["words", "value"], False),
    (Alike, ["readings", "factors"], True), (Apart, ["words", "one", "other"], False),
    (Right, ["readings", "factors"], True), (Wrong, ["entry", "question", "told", "due"], False),
    (Whole, ["readings", "factors"], True), (Torn, ["entry", "question", "cell", "worth"], False),
    (Covered, ["pairs"], True), (Uncovered, ["entry", "question", "told", "due"], False),
    (OneWay, [], True), (TwoWays, ["words"], False), (Rank, ["number", "ahead", "behind"], None)]


def changing():
    """Triples of a value, a function that changes it and what stands within it, and an equal value."""
    def nested():
        return {"a": [1, ({"b": [2]}, [3])], (0, "0"): (1, [4])}

    def change(value):
        value["a"][1][0]["b"].append(5)
        value["a"][1][1].clear()
        value["a"].append(6)
        value[0, "0"][1].append(7)
        value["c"] = 8

    def change_within(value):
        change(value[0][1][0])
        value[0][1].append(9)

    yield [1, 2], lambda value: value.append(3), [1, 2]
    yield {"a": 1}, lambda value: value.update(b=2), {"a": 1}
    yield {"a": 1}, lambda value: value.clear(), {"a": 1}
    yield nested(), change, nested()
    yield [nested()], lambda value: change(value[0]), [nested()]
    yield ((0, [nested()]), "x"), change_within, ((0, [nested()]), "x")
    yield ([], {}), lambda value: value[0].append(value[1].update(a=1)), ([], {})
    yield (((((((["deep"],),),),),),),), lambda value: value[0][0][0][0][0][0][0].append(1), (((((((["deep"],),),),),),),)


def classes_with_fields():
    """Pairs of a paper or an error and the names of its fields."""
    return ([(paper, fields) for paper, fields, _ in PAPERS] +
            [(getattr(errors, name), fields) for name, fields in FIELDS.items()])


class Unchanged(unittest.TestCase):
    """What is done to an argument afterwards changes nothing."""

    def test_lists_and_dicts(self):
        for made, fields in classes_with_fields():
            for at, field in enumerate(fields):
                for value, change, due in changing():
                    values = [value if place == at else place for place in range(len(fields))]
                    told = made(*values)
                    again = made(**dict(zip(fields, values)))
                    change(value)
                    self.assertFalse(same(value, due))
                    for paper in (told, again):
                        self.assertTrue(same(getattr(paper, field), due), (made, field))
                    if not issubclass(made, SumError):
                        others = [due if place == at else place for place in range(len(fields))]
                        self.assertTrue(told == again == made(*others))
                        self.assertFalse(told == made(*values))

    def test_one_value_in_two_fields(self):
        for made, fields in classes_with_fields():
            if len(fields) > 1:
                value = [[1]]
                paper = made(*[value] * len(fields))
                value[0].append(2)
                self.assertTrue(same(list(vars(paper).values()), [[[1]]] * len(fields)))

    def test_other_values_are_kept_as_they_are(self):
        for made, fields in classes_with_fields():
            for at, field in enumerate(fields):
                for value in odd_values():
                    if not isinstance(value, (list, tuple, dict)):
                        paper = made(*[[value] if place == at else place for place in range(len(fields))])
                        self.assertIs(getattr(paper, field)[0], value)
                        paper = made(*[value if place == at else place for place in range(len(fields))])
                        self.assertIs(getattr(paper, field), value)

    def test_refused_values(self):
        """An error keeps what was refused, as it was."""
        row = [1, [2]]
        for call, error in ((lambda: Rows(2).more(row), errors.BadNumber), (lambda: is_word("0", row), errors.BadBase),
                            (lambda: reading(row), errors.BadWord)):
            with self.assertRaises(error) as caught:
                call()
            row[1].append(3)
            self.assertEqual(caught.exception.value, [1, [2]])
            row[1].pop()


class Papers(unittest.TestCase):
    def test_which_are_verdicts(self):
        for paper, fields, verdict in PAPERS:
            self.assertIs(issubclass(paper, Verdict), verdict is not None)
            self.assertIn("__eq__", vars(paper))
            if verdict is not None:
                self.assertIn("__bool__", vars(paper))
                self.assertIs(bool(paper(*fields)), verdict)

    def test_any_values_are_kept(self):
        for paper, fields, _ in PAPERS:
            for value in odd_values():
                for at in range(len(fields)):
                    values = [value if place == at else place for place in range(len(fields))]
                    due = dict(zip(fields, values))
                    self.assertTrue(same(vars(paper(*values)), due))
                    self.assertTrue(same(vars(paper(**dict(reversed(due.items())))), due))

    def test_equality(self):
        for paper, fields, _ in PAPERS:
            values = list(range(len(fields)))
            self.assertTrue(paper(*values) == paper(*values))
            self.assertFalse(paper(*values) != paper(*values))
            for at in range(len(fields)):
                for other in (77, [at], (at,), None, "0"):
                    self.assertFalse(paper(*values) == paper(*values[:at], other, *values[at + 1:]))
            for value in odd_values() + [tuple(values), values]:
                if not (isinstance(value, paper) and paper is OneWay):
                    self.assertFalse(paper(*values) == value)
                    self.assertTrue(paper(*values) != value)

    def test_papers_of_another_class_are_not_equal(self):
        for one, fields, _ in PAPERS:
            for other, others, _ in PAPERS:
                if one is not other:
                    self.assertFalse(one(*fields) == other(*others))
                    self.assertTrue(one(*fields) != other(*others))


if __name__ == "__main__":
    unittest.main()
