"""Runs examples as the document writes them: rows `>>> ..`, each with what it gives or `raises ..` below it."""

from helpers import same
from sumdigits import errors


def cases_in(text):
    """The list of pairs of a row of code and the row below it that tells what it gives, None without one."""
    cases = []
    for row in text.strip().split("\n"):
        if row.startswith(">>> "):
            cases.append([row[4:], None])
        else:
            cases[-1][1] = row
    return cases


def run_examples(test, text, names):
    """Run the rows one after the other with these names, which they add to."""
    for code, told in cases_in(text):
        if told is None:
            exec(code, names)
        elif told.startswith("raises "):
            check_error(test, code, told[7:], names)
        else:
            given = eval(code, names)
            test.assertTrue(same(given, eval(told, names)), f"{code} gives {given!r}")


def check_error(test, code, told, names):
    due = eval(told, dict(vars(errors)))
    try:
        exec(code, names)
    except errors.SumError as caught:
        test.assertIs(type(caught), type(due), code)
        test.assertTrue(same(vars(caught), vars(due)), code)
        return
    test.fail(f"{code} raises nothing")
