"""The ways to cut a text, each told as the indices at which it is cut."""

from twowaycuts.base.names import is_integer
from twowaycuts.book.finds import row_from, words_ahead, words_at


def count_ways(book, text):
    """L of the text: the number of its ways."""
    found = words_at(book, text)
    return len(text) + 1 - len(found)


def counts(book, text):
    """L of all beginnings of the text, from the empty one on."""
    ahead = words_ahead(words_at(book, text))
    told = []
    many = 0
    for index in range(len(text) + 1):
        # A way begins with each beginning that no word ends.
        if index not in ahead:
            many += 1
        told.append(many)
    return tuple(told)


def ways(book, text):
    """A generator of all ways, ascending."""
    found = words_at(book, text)
    ahead = words_ahead(found)
    for start in range(len(text) + 1):
        if start not in ahead:
            yield _cuts_from(found, start)


def places(book, text):
    """The pairs (index, word) of all places at which a word stands in the text, ascending."""
    found = words_at(book, text)
    return tuple([(index, found[index]) for index in sorted(found)])


def is_way(book, text, value):
    """Whether the value is a way of the text."""
    found = words_at(book, text)
    # Integers first: True is equal to 1, and no cut.
    if not isinstance(value, tuple) or not value or not all([is_integer(index) for index in value]):
        return False
    start = value[0]
    if not 0 <= start <= len(text) or start in words_ahead(found):
        return False
    return value == _cuts_from(found, start)


def _cuts_from(found, start):
    cuts = [start]
    for word in row_from(found, start):
        cuts.append(cuts[-1] + len(word))
    return tuple(cuts)
