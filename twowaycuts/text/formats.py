"""Books, plans and values as texts, and back."""

from twowaycuts.base.names import MAX_DIGITS, MAX_TEXT, is_integer, is_letters, is_word, ordered
from twowaycuts.book.books import MAX_WORDS, Book, check_book, first_clash
from twowaycuts.errors import InvalidOperation, ParseError
from twowaycuts.plan.plans import MAX_DEGREE, Plan, check_plan

MAX_DEPTH = 8
_LETTERS = "abcdefghijklmnopqrstuvwxyz"


def write_book(book):
    """The text of a book."""
    check_book(book)
    return _folded(["letters " + book.letters], book.words)


def write_plan(plan):
    """The text of a plan."""
    check_plan(plan)
    return _folded(["letters " + plan.letters, f"degree {plan.degree}"], plan.words)


def write_value(value):
    """The text of a value."""
    return _told(value, 0)


def read_book(text):
    """The book that has just this text."""
    lines = _lines_of(text)
    _check_forms(lines, ["letters"])
    parts = [line.split(" ")[1] for line in lines]
    letters, words = parts[0], parts[1:]
    if not _are_words(letters, words) or first_clash(words) is not None:
        raise ParseError(len(lines))
    return Book(letters, tuple(words))


def read_plan(text):
    """The plan that has just this text."""
    lines = _lines_of(text)
    _check_forms(lines, ["letters", "degree"])
    parts = [line.split(" ")[1] for line in lines]
    letters, degree, words = parts[0], read_number(parts[1]), parts[2:]
    if not 1 <= degree <= MAX_DEGREE or not _are_words(letters, words):
        raise ParseError(len(lines))
    return Plan(letters, tuple(words), degree)


def read_value(text):
    """The value that has just this text."""
    lines = _lines_of(text)
    values = _values_of(lines[0])
    if len(values) != 1:
        raise ParseError(0)
    if len(lines) > 1:
        raise ParseError(1)
    return values[0]


def read_number(text):
    """The integer of at least 0 that is written so, or None."""
    if not text.isascii() or not text.isdigit() or len(text) > MAX_DIGITS:
        return None
    return int(text) if text == str(int(text)) else None


def is_lower(text):
    """Whether a string has no signs but the letters a to z."""
    # A sign that is no letter stops the stripping, so that something is left.
    return text.strip(_LETTERS) == ""


def _folded(heads, words):
    return "\n".join(heads + ["word " + word for word in words])


def _told(value, depth):
    """The text of a value that is in so many tuples."""
    if value is None:
        return "none"
    if is_integer(value):
        return str(value)
    if isinstance(value, str) and len(value) <= MAX_TEXT and is_lower(value):
        return "=" + value
    if not isinstance(value, tuple) or depth == MAX_DEPTH:
        raise InvalidOperation("the value has no text")
    return " ".join(["("] + [_told(part, depth + 1) for part in value] + [")"])


def _lines_of(text):
    if not isinstance(text, str):
        raise InvalidOperation("a text that is read has to be a string")
    return text.split("\n")


def _check_forms(lines, heads):
    """Raise ParseError unless each line has the form of its place: these heads first, then words."""
    for index, line in enumerate(lines):
        head = heads[index] if index < len(heads) else "word"
        parts = line.split(" ")
        if len(parts) != 2 or parts[0] != head or parts[1] == "":
            raise ParseError(index)
        if head == "degree" and read_number(parts[1]) is None:
            raise ParseError(index)
    if len(lines) < len(heads):
        raise ParseError(len(lines))


def _are_words(letters, words):
    """Whether these are letters, and the list a set of words of these letters, in order, that is not too great."""
    if not is_letters(letters) or not all([is_word(letters, word) for word in words]):
        return False
    return len(words) <= MAX_WORDS and tuple(words) == ordered(words)


def _values_of(line):
    """The list of the values of a line, one behind the other; it is empty if something else stands in the line."""
    rows = [[]]
    for sign in line.split(" "):
        part = _part_of(sign)
        if sign == "(" and len(rows) <= MAX_DEPTH:
            rows.append([])
        elif sign == ")" and len(rows) > 1:
            done = rows.pop()
            rows[-1].append(tuple(done))
        elif part:
            rows[-1].append(part[0])
        else:
            return []
    return rows[0] if len(rows) == 1 else []


def _part_of(sign):
    """A list with the value that is no tuple and is written so, or an empty one."""
    if sign == "none":
        return [None]
    if sign.startswith("="):
        return [sign[1:]] if len(sign) <= MAX_TEXT + 1 and is_lower(sign[1:]) else []
    number = read_number(sign.removeprefix("-"))
    # There is no number -0.
    if number is None or sign == "-0":
        return []
    return [-number] if sign.startswith("-") else [number]
