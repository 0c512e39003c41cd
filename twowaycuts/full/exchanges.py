"""Full books in which a text stands in the place of the words that begin or end with it."""

from twowaycuts.base.names import check_text, ordered
from twowaycuts.book.books import MAX_WORDS, Book, check_book
from twowaycuts.book.full import check_full
from twowaycuts.errors import InvalidOperation, TooMany
from twowaycuts.full.inner import extensions


def can_exchange(book, text):
    """Whether the text can be exchanged."""
    check_book(book)
    check_text(book.letters, text)
    check_full(book)
    return _can_exchange(book, text)


def exchangeable(book):
    """The set of all texts that can be exchanged."""
    check_book(book)
    check_full(book)
    begun = {}
    ended = {}
    for word in book.words:
        for at in range(1, len(word)):
            begun.setdefault(word[:at], []).append(word)
            ended[word[at:]] = True
    found = [text for text in begun if text in ended]
    return ordered([text for text in found if not any([word.endswith(text) for word in begun[text]])])


def exchange(book, text):
    """The exchanged book."""
    check_book(book)
    check_text(book.letters, text)
    check_full(book)
    return _exchanged(book, text)


def worn(book, text, other):
    """The indices at which the second text is worn by the first one."""
    check_book(book)
    check_text(book.letters, text)
    check_text(book.letters, other)
    check_full(book)
    if not _can_exchange(book, text):
        raise InvalidOperation("the text cannot be exchanged")
    ahead, behind = extensions(book, text)
    ends = {one[at:]: True for one in ahead for at in range(1, len(one) + 1)}
    beginnings = {one[:at]: True for one in behind for at in range(len(one))}
    found = []
    index = other.find(text)
    while index >= 0:
        if other[:index] in ends and other[index + len(text):] in beginnings:
            found.append(index)
        index = other.find(text, index + 1)
    return tuple(found)


def exchange_all(book, texts):
    """The book behind exchanges of all the texts, one after the other."""
    check_book(book)
    if not isinstance(texts, tuple):
        raise InvalidOperation("texts are told as a tuple")
    for text in texts:
        check_text(book.letters, text)
    check_full(book)
    told = book
    for text in texts:
        told = _exchanged(told, text)
    return told


def _can_exchange(book, text):
    ahead, behind = extensions(book, text)
    if not ahead or not behind:
        return False
    return not any([word.startswith(text) and word.endswith(text) for word in book.words])


def _exchanged(book, text):
    if not _can_exchange(book, text):
        raise InvalidOperation("the text cannot be exchanged")
    ahead, behind = extensions(book, text)
    kept = [word for word in book.words if not word.startswith(text) and not word.endswith(text)]
    # All the new words are different ones, for no word of the book begins another one. None has more than MAX_WORD
    # letters: over several letters a full book with so long a word has more words than that, too.
    if len(kept) + 1 + len(ahead) * len(behind) > MAX_WORDS:
        raise TooMany(MAX_WORDS)
    return Book(book.letters, tuple(kept + [text] + [one + text + other for one in ahead for other in behind]))
