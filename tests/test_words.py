"""Words and readings."""

import inspect
import itertools
import unittest

from helpers import assert_order, assert_raises, odd_values, size_table, some_function, tree_scheme, words_of_length
from sumdigits.errors import BadBase, BadLetter, BadNumber, BadWidth, BadWord, TooMany, Unlike
from sumdigits.words import all_words, is_word, number_of, reading, word_of, words_of

NO_BASES = [None, True, 0, 1, 5, -2, "2", (2,), [2], {}, some_function, size_table(), tree_scheme()]
NO_LENGTHS = [None, True, False, -1, 101, 10 ** 30, "1", (1,), [1], {}, some_function, size_table()]
NO_WORDS = [None, True, 0, 1, "2", "02", "a", " ", "0 1", "0\n", "-", "0" * 101, (), ("0",), ["0"], {}, {"0": 1},
            some_function, size_table(), tree_scheme()]


class Words(unittest.TestCase):
    def test_is_word(self):
        for base in (2, 3, 4):
            digits = "0123"[:base]
            for word in ("", *digits, digits, "0" * 100, digits[-1] * 100):
                self.assertIs(is_word(word, base), True)
            for word in ("0123"[base:base + 1] or "4", "0" * 101, "01 ", "01\n", "+1", "-1", "0_1", "\u0661"):
                self.assertIs(is_word(word, base), False, (word, base))
        for value in odd_values():
            self.assertIs(is_word(value, 4), isinstance(value, str) and value in ("", "0"), repr(value))
        self.assertIs(is_word(value="01", base=2), True)

    def test_bases_are_asked_first(self):
        for base in NO_BASES:
            for value in ("0", None, "0" * 101):
                assert_raises(self, BadBase, [base], is_word, value, base)
                assert_raises(self, BadBase, [base], number_of, value, base)
                assert_raises(self, BadBase, [base], word_of, value, base, value)

    def test_number_of(self):
        for base in (2, 3, 4):
            for length in range(5):
                for at, word in enumerate(words_of_length(base, length)):
                    self.assertIs(type(number_of(word, base)), int)
                    self.assertEqual(number_of(word, base), at)
            most = str(base - 1) * 100
            self.assertEqual(number_of(word=most, base=base), base ** 100 - 1)
        for value in NO_WORDS:
            assert_raises(self, BadWord, [value], number_of, value, 2)
        assert_raises(self, BadWord, ["3"], number_of, "3", 3)

    def test_word_of(self):
        for base in (2, 3, 4):
            for length in range(5):
                for at, word in enumerate(words_of_length(base, length)):
                    self.assertEqual(word_of(at, base, length), word)
                for number in (-1, base ** length, None, True, "0", (0,), [], {}, some_function, size_table()):
                    assert_raises(self, BadNumber, [number], word_of, number, base, length)
            self.assertEqual(word_of(base ** 100 - 1, base, 100), str(base - 1) * 100)
            assert_raises(self, BadNumber, [base ** 100], word_of, base ** 100, base, 100)
        self.assertEqual(word_of(length=3, base=2, number=1), "001")
        self.assertEqual(word_of(0, 4, 0), "")
        for length in NO_LENGTHS:
            assert_raises(self, BadNumber, [length], word_of, 0, 2, length)
        assert_order(self, word_of, {"number": 1, "base": 2, "length": 3},
                     [({"base": True}, BadBase, [True]), ({"length": 101}, BadNumber, [101]),
                      ({"number": -1}, BadNumber, [-1])])

    def test_all_words(self):
        for base in (2, 3, 4):
            for length in range(5):
                self.assertEqual(list(all_words(base, length)), words_of_length(base, length))
        self.assertTrue(inspect.isgenerator(all_words(2, 2)))
        long = list(itertools.islice(all_words(base=4, length=100), 6))
        self.assertEqual([word[-2:] for word in long], ["00", "01", "02", "03", "10", "11"])
        self.assertEqual({len(word) for word in long}, {100})
        first = all_words(2, 1)
        second = all_words(2, 1)
        self.assertEqual([next(first), next(second), next(first), next(second)], ["0", "0", "1", "1"])
        for base in NO_BASES:
            assert_raises(self, BadBase, [base], lambda: next(all_words(base, None)))
        for length in NO_LENGTHS:
            assert_raises(self, BadNumber, [length], lambda: next(all_words(2, length)))


class Readings(unittest.TestCase):
    def test_reading(self):
        self.assertEqual(reading(), ())
        self.assertEqual(reading("0123"), ("0", "1", "2", "3"))
        self.assertEqual(reading("01", "23"), ("02", "13"))
        self.assertEqual(reading("01", "23", "10"), ("021", "130"))
        for many in range(4):
            self.assertEqual(reading(*[""] * many), ())
        self.assertEqual(reading("3" * 100, "0" * 100), ("30",) * 100)

    def test_reading_refuses(self):
        for value in [value for value in NO_WORDS if value not in ("2", "02")] + ["4"]:
            assert_raises(self, BadWord, [value], reading, value)
            assert_raises(self, BadWord, [value], reading, "0", "11", value, "0", "5")
            assert_raises(self, BadWord, [value], reading, "", "", value, None, "0" * 101)
        assert_raises(self, Unlike, ["length"], reading, "0", "0", "")
        assert_raises(self, Unlike, ["length"], reading, "0", "0", "0", "00")
        assert_raises(self, TooMany, ["words", 3], reading, "0", "1", "2", "3")
        assert_raises(self, TooMany, ["words", 3], reading, *[""] * 50)

    def test_words_of(self):
        for width in (1, 2, 3):
            for words in itertools.product(words_of_length(3, 2), repeat=width):
                self.assertEqual(words_of(reading(*words), width), words)
            self.assertEqual(words_of((), width), ("",) * width)
            self.assertEqual(words_of(("3" * width,) * 100, width), ("3" * 100,) * width)
            assert_raises(self, BadLetter, [None], words_of, ("3" * width,) * 101, width)
        self.assertEqual(words_of(width=2, letters=("01", "23")), ("02", "13"))

    def test_words_of_refuses(self):
        for width in (None, True, False, 0, 4, -1, "1", (1,), [], {}, some_function, size_table()):
            assert_raises(self, BadWidth, [width], words_of, ("0",), width)
            assert_raises(self, BadWidth, [width], words_of, None, width)
        for value in [None, True, 0, "", "0", "01", [], ["0"], {}, {"0": 1}, some_function, size_table(),
                      ("0",) * 101, (None,) * 101]:
            assert_raises(self, BadLetter, [None], words_of, value, 1)
        for value in odd_values():
            if value not in ("0",):
                assert_raises(self, BadLetter, [value], words_of, ("1", value, 5), 1)
        assert_raises(self, BadLetter, ["4"], words_of, ("3", "4", "5"), 1)
        assert_raises(self, BadLetter, ["0"], words_of, ("00", "0", "000"), 2)
        assert_raises(self, BadLetter, ["00"], words_of, ("00", "0"), 3)


if __name__ == "__main__":
    unittest.main()
