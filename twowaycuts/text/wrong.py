"""Rows of words with a wrong letter, or with lost letters; and words turned round."""

from twowaycuts.base.names import check_number, check_text
from twowaycuts.book.books import Book, check_book
from twowaycuts.book.cuts import cut_left, cut_right
from twowaycuts.book.finds import row_in, words_ahead, words_at
from twowaycuts.errors import TooMany

MAX_LOST = 4


def near_rows(book, text):
    """The set of all rows of words that differ from the text in at most one letter."""
    found = words_at(book, text)
    heads, tails = _heads(found), _tails(found, len(text))
    rows = [text[:at] + word[at - start] + text[at + 1:] for start, word, at in _changes(book, text, heads, tails)]
    return tuple(sorted(rows + [text] if len(text) in heads else rows))


def wrong_places(book, text):
    """The indices of the letters by which some near row differs from the text."""
    found = words_at(book, text)
    changes = _changes(book, text, _heads(found), _tails(found, len(text)))
    return tuple(sorted(set([at for _, _, at in changes])))


def sure_words(book, text):
    """The pairs (index, word) of the words that all near rows have, or None if there is no near row."""
    found = words_at(book, text)
    heads, tails = _heads(found), _tails(found, len(text))
    changes = _changes(book, text, heads, tails)
    if not changes and len(text) not in heads:
        return None
    sure = [(index, found[index]) for index in _kept_starts(found, heads, tails, changes)]
    # A word with the wrong letter stands in just one near row.
    if len(changes) == 1 and len(text) not in heads:
        sure.append((changes[0][0], changes[0][1]))
    return tuple(sorted(sure))


def around(book, text, start, end):
    """The words that are known ahead of lost letters, and those behind them."""
    check_book(book)
    check_text(book.letters, text)
    check_number(start, 0, len(text))
    check_number(end, start, len(text))
    return cut_left(book, text[:start])[0], cut_right(book, text[end:])[1]


def fillings(book, text, start, end):
    """The set of all rows of words that differ from the text in lost letters alone."""
    ahead, behind = around(book, text, start, end)
    if end - start > MAX_LOST:
        raise TooMany(MAX_LOST)
    left, right = "".join(ahead), "".join(behind)
    near, far = text[len(left):start], text[end:len(text) - len(right)]
    # Each of these would begin, or end, a word.
    if len(near) > book.longest or len(far) > book.longest:
        return ()
    lost = [""]
    for _ in range(end - start):
        lost = [one + letter for one in lost for letter in book.letters]
    return tuple([text[:start] + one + text[end:] for one in lost if row_in(book.words, near + one + far) is not None])


def mirrored(book):
    """The book of all words, each turned round."""
    check_book(book)
    return Book(book.letters, tuple([word[::-1] for word in book.words]))


def is_mirrored(book):
    """Whether the mirrored book is the book itself."""
    return mirrored(book) == book


def _heads(found):
    """The dict of the indices up to which the text is a row of words, by the dict of where words stand."""
    heads = {0: True}
    at = 0
    while at in found:
        at = at + len(found[at])
        heads[at] = True
    return heads


def _tails(found, size):
    """The dict of the indices from which on the text, of so many letters, is a row of words."""
    ahead = words_ahead(found)
    tails = {size: True}
    at = size
    while at in ahead:
        at = at - len(ahead[at])
        tails[at] = True
    return tails


def _changes(book, text, heads, tails):
    """All (start, word, index): with another letter at the index the text is a row that has the word at the start."""
    changes = []
    for start in heads:
        alike = [word for word in book.words if start + len(word) in tails]
        at = start
        # The words that are like the text ahead of the index.
        while alike:
            changes.extend([(start, word, at) for word in alike if _is_wrong_at(text, start, word, at)])
            at += 1
            alike = [word for word in alike if start + len(word) > at and word[at - 1 - start] == text[at - 1]]
    return changes


def _is_wrong_at(text, start, word, at):
    """Whether the word differs from the text at this index, and not behind it."""
    return word[at - start] != text[at] and word[at - start + 1:] == text[at + 1:start + len(word)]


def _kept_starts(found, heads, tails, changes):
    """The indices of the words, without a wrong letter, that all near rows have."""
    covered = {index: True for start, word, _ in changes for index in range(start, start + len(word))}
    last_start = max([start for start, _, _ in changes], default=0)
    first_end = min([start + len(word) for start, word, _ in changes], default=max(tails))
    # A row has the words of the text that are cut off from the left ahead of its wrong word, and those from the right
    # behind it.
    starts = [index for index in heads if index in tails or index < first_end]
    starts = starts + [index for index in tails if index not in heads and index >= last_start]
    return [index for index in starts if index in found and index not in covered]
