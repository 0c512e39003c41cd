"""Integers, letters, texts and words, and the order of texts."""

from twowaycuts.errors import InvalidLetters, InvalidNumber, InvalidOperation, InvalidText, InvalidWord

MAX_DIGITS = 200
MAX_WORD = 400
MAX_TEXT = 4000
MAX_LETTERS = 3

# Ten to the power MAX_DIGITS, in two steps, since an exponent here is at most 64.
_TOO_LONG = (10 ** 50) ** 4


def is_integer(value):
    """Whether the value is an integer of at most MAX_DIGITS digits."""
    return isinstance(value, int) and not isinstance(value, bool) and abs(value) < _TOO_LONG


def is_letters(value):
    """Whether the value is a string of one to three different letters, ascending."""
    if not isinstance(value, str) or not 1 <= len(value) <= MAX_LETTERS:
        return False
    return value == "".join(sorted(set(value))) and "a" <= value[0] and value[-1] <= "z"


def is_text(letters, value):
    """Whether the value is a text of the letters, of at most MAX_TEXT letters."""
    check_letters(letters)
    return _is_spelled(letters, value) and len(value) <= MAX_TEXT


def is_word(letters, value):
    """Whether the value is a word of the letters."""
    check_letters(letters)
    return _is_word_of(letters, value)


def _is_word_of(letters, value):
    return _is_spelled(letters, value) and 1 <= len(value) <= MAX_WORD


def _is_spelled(letters, value):
    # A sign that is no letter stops the stripping, so that something is left.
    return isinstance(value, str) and value.strip(letters) == ""


def in_order(letters, texts):
    """The set of the texts of a tuple."""
    check_letters(letters)
    if not isinstance(texts, tuple):
        raise InvalidOperation("texts are told as a tuple")
    for text in texts:
        check_text(letters, text)
    return ordered(texts)


def ordered(texts):
    """The set of some strings: by their length, those of one length in Python's order."""
    # sorted keeps the order of what has the same key.
    return tuple(sorted(sorted(set(texts)), key=len))


def ordered_words(letters, words):
    """The set of the words of a tuple, with the errors that the document names for such a pair."""
    check_letters(letters)
    if not isinstance(words, tuple):
        raise InvalidOperation("words are told as a tuple")
    # The letters are right: they are not looked at once more for each word.
    if not all([_is_word_of(letters, word) for word in words]):
        raise InvalidWord("a word has 1 to 400 letters, of those that are wanted")
    return ordered(words)


def check_letters(letters):
    """Raise InvalidLetters unless these are letters."""
    if not is_letters(letters):
        raise InvalidLetters("letters are one to three different letters a to z, ascending")


def check_text(letters, text):
    """Raise InvalidText unless this is a text of the letters."""
    if not is_text(letters, text):
        raise InvalidText("a text has at most 4000 letters, of those that are wanted")


def check_word(letters, word):
    """Raise InvalidWord unless this is a word of the letters."""
    if not is_word(letters, word):
        raise InvalidWord("a word has 1 to 400 letters, of those that are wanted")


def check_number(value, low, high):
    """Raise InvalidNumber unless the value is an integer from low to high."""
    if not is_integer(value) or not low <= value <= high:
        raise InvalidNumber(value)
