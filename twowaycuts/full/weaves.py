"""Books whose words are rows of words of another book."""

from twowaycuts.base.names import MAX_WORD, check_number
from twowaycuts.book.books import MAX_WORDS, Book, check_book
from twowaycuts.book.chances import check_chances, weighted_sum
from twowaycuts.book.cuts import row_of
from twowaycuts.errors import InvalidOperation

MAX_MANY = 400


def is_weave(book, value):
    """Whether the value is a weave of the book, with no more rows and no longer texts than a book can have."""
    check_book(book)
    if not isinstance(value, tuple) or len(value) > MAX_WORDS or not all([_is_row(book, row) for row in value]):
        return False
    if not all([row < behind for row, behind in zip(value, value[1:])]):
        return False
    return not _some_begins(value) and not _some_begins(sorted([row[::-1] for row in value]))


def joined(book, rows):
    """The joined book."""
    _check_weave(book, rows)
    return Book(book.letters, tuple(["".join(row) for row in rows]))


def weave_of(book, base):
    """The weave of the second book whose joined book the first one is, or None."""
    check_book(book)
    check_book(base)
    if book.letters != base.letters:
        raise InvalidOperation("both books have to have the same letters")
    rows = [row_of(base, word) for word in book.words]
    return tuple(sorted(rows)) if all([row is not None for row in rows]) else None


def mean_words(book, rows, chances):
    """The mean number of words, for these chances, a fraction."""
    _check_weave(book, rows)
    check_chances(book.letters, chances)
    return weighted_sum(book.letters, chances, [("".join(row), len(row)) for row in rows])


def power(book, many):
    """The book of all rows of so many words."""
    check_book(book)
    check_number(many, 1, MAX_MANY)
    told = book
    for _ in range(many - 1):
        told = told * book
    return told


def _check_weave(book, rows):
    if not is_weave(book, rows):
        raise InvalidOperation("rows are told as a weave of the book")


def _is_row(book, row):
    if not isinstance(row, tuple) or not row or not all([word in book for word in row]):
        return False
    return sum([len(word) for word in row]) <= MAX_WORD


def _some_begins(rows):
    # In Python's order the rows that begin with a row stand right behind it.
    return any([behind[:len(row)] == row for row, behind in zip(rows, rows[1:])])
