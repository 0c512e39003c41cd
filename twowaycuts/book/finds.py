"""Where words stand in a text, how they follow one another, and which beginnings they end."""

from twowaycuts.base.names import check_text
from twowaycuts.book.books import check_book


def words_at(book, text):
    """The dict from each index of the text at which a word stands to this word."""
    check_book(book)
    check_text(book.letters, text)
    return places_in(book.words, text)


def places_in(words, text):
    """The same for the words of a book and a text of whatever length."""
    found = {}
    # No word begins another one, so at each index there is one word at most.
    for word in words:
        at = text.find(word)
        while at >= 0:
            found[at] = word
            at = text.find(word, at + 1)
    return found


def words_ahead(found):
    """The dict from each index at which a word ends to this word, by the dict of where words stand."""
    return {at + len(found[at]): found[at] for at in found}


def row_from(found, start):
    """The list of the words that follow one another from an index on."""
    row = []
    at = start
    while at in found:
        row.append(found[at])
        at = at + len(found[at])
    return row


def row_in(words, text):
    """The words of a book of which a text, of whatever length, is a row, or None."""
    row = row_from(places_in(words, text), 0)
    return tuple(row) if "".join(row) == text else None


def unended(words, texts):
    """For each of some texts the number of its beginnings that none of the words ends."""
    # One long text is searched faster than many short ones; no word goes over a blank.
    ended = _ends_in(words, " ".join(texts))
    told = []
    start = 0
    for text in texts:
        behind = start + len(text) + 1
        told.append(behind - start - sum([1 for index in range(start, behind) if index in ended]))
        start = behind
    return told


def _ends_in(words, text):
    """The dict with the indices at which some word ends in the text."""
    ended = {}
    for word in _without_longer(words):
        at = text.find(word)
        while at >= 0:
            ended[at + len(word)] = True
            at = text.find(word, at + 1)
    return ended


def _without_longer(words):
    """The words without those of which another one is an end; so at each index just one ends, at most."""
    kept = []
    # In Python's order what begins with a text stands right behind it.
    for turned in sorted([word[::-1] for word in words]):
        if not kept or not turned.startswith(kept[-1]):
            kept.append(turned)
    return [turned[::-1] for turned in kept]
