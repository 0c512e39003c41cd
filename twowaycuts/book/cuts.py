"""Texts that are cut into words from the left and from the right."""

from twowaycuts.base.names import check_text
from twowaycuts.book.books import check_book
from twowaycuts.book.finds import row_from, words_ahead, words_at


def cut_left(book, text):
    """The words that are taken off from the left, and the text that is left."""
    row = row_from(words_at(book, text), 0)
    return tuple(row), text[_letters_in(row):]


def cut_right(book, text):
    """The text that is left, and the words that are taken off from the right."""
    found = words_ahead(words_at(book, text))
    row = []
    at = len(text)
    while at in found:
        row.append(found[at])
        at = at - len(found[at])
    return text[:at], tuple(row[::-1])


def row_of(book, text):
    """The words of which the text is a row, or None."""
    words, rest = cut_left(book, text)
    return words if rest == "" else None


def is_row(book, text):
    """Whether the text is a row of words."""
    return row_of(book, text) is not None


def is_cut(book, text, value):
    """Whether the value is a tuple (v, words, u) that tells a way to cut the text."""
    check_book(book)
    check_text(book.letters, text)
    if not isinstance(value, tuple) or len(value) != 3:
        return False
    ahead, words, behind = value
    if not isinstance(ahead, str) or not isinstance(words, tuple) or not isinstance(behind, str):
        return False
    if not all([word in book for word in words]) or ahead + "".join(words) + behind != text:
        return False
    return not any([ahead.endswith(word) or behind.startswith(word) for word in book.words])


def _letters_in(row):
    return sum([len(word) for word in row])
