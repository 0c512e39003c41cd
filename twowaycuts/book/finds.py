"""Where the words of a book stand in a text, and how they follow one another."""

from twowaycuts.base.names import check_text
from twowaycuts.book.books import check_book


def words_at(book, text):
    """The dict from each index of the text at which a word stands to this word."""
    check_book(book)
    check_text(book.letters, text)
    found = {}
    # No word begins another one, so at each index there is one word at most.
    for word in book.words:
        at = text.find(word)
        while at >= 0:
            found[at] = word
            at = text.find(word, at + 1)
    return found


def words_ahead(found):
    """The dict from each index at which a word ends to this word, by the dict of where words stand."""
    return {at + len(found[at]): found[at] for at in found}


def row_from(found, start):
    """The list of the words that follow one another from an index on."""
    row = []
    at = start
    while at in found:
        row.append(found[at])
        at = at + len(found[at])
    return row
