"""Words of digits, and the readings of several words side by side."""

from sumdigits.checks import check_base, check_length, has_digits, is_between, is_letter, power
from sumdigits.errors import BadLetter, BadNumber, BadWidth, BadWord, TooMany, Unlike


def is_word(value, base):
    """Whether a value is a word in the base."""
    check_base(base)
    return isinstance(value, str) and len(value) <= 100 and has_digits(value, base)


def number_of(word, base):
    """The number that the digits of a word write in the base."""
    if not is_word(word, base):
        raise BadWord(word)
    number = 0
    for digit in word:
        number = number * base + int(digit)
    return number


def word_of(number, base, length):
    """The word of so many digits with this number."""
    check_base(base)
    check_length(length)
    if not is_between(number, 0, power(base, length) - 1):
        raise BadNumber(number)
    return _digits_of(number, base, length)


def _digits_of(number, base, length):
    digits = []
    for _ in range(length):
        digits.append(str(number % base))
        number = number // base
    return "".join(digits[::-1])


def all_words(base, length):
    """All words of so many digits, ascending, one after the other."""
    check_base(base)
    check_length(length)
    for number in range(power(base, length)):
        yield _digits_of(number, base, length)


def check_words(words, base):
    """Refuse the first value that is no word in the base, then words of unlike lengths."""
    for word in words:
        if not is_word(word, base):
            raise BadWord(word)
    for word in words:
        if len(word) != len(words[0]):
            raise Unlike("length")


def side_by_side(words):
    """The letters of words of one length: of each index the digits that stand there."""
    return tuple(["".join(digits) for digits in zip(*words)])


def reading(*words):
    """The reading of at most three words of one length."""
    check_words(words, 4)
    if len(words) > 3:
        raise TooMany("words", 3)
    return side_by_side(words)


def words_of(letters, width):
    """The tuple of the words with this reading."""
    if not is_between(width, 1, 3):
        raise BadWidth(width)
    if not isinstance(letters, tuple) or len(letters) > 100:
        raise BadLetter(None)
    for letter in letters:
        if not is_letter(letter, 4, width):
            raise BadLetter(letter)
    return parted_letters(letters, width)


def parted_letters(letters, width):
    """The words of which these are the letters, so many of them and of any length."""
    return tuple(["".join([letter[place] for letter in letters]) for place in range(width)])
