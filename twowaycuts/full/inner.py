"""The degree of a full book, and the texts that lie within words."""

from twowaycuts.base.names import MAX_WORD, check_number, check_text, ordered
from twowaycuts.book.books import check_book
from twowaycuts.book.full import check_full


def degree(book):
    """The degree of a full book."""
    check_book(book)
    check_full(book)
    return degree_of(book)


def degree_of(book):
    """The degree of a book that surely is full."""
    # Each letter, so many times as the degree tells, is a word, and no other row of this letter alone is one.
    return max([len(word) for word in book.words if word == book.letters[0] * len(word)])


def is_inner(book, text):
    """Whether the text is an inner text of the book."""
    check_book(book)
    check_text(book.letters, text)
    return _is_within(book, _insides(book), text)


def inner_texts(book, size):
    """The set of all inner texts with so many letters."""
    check_book(book)
    check_number(size, 0, MAX_WORD)
    # The first letter of a word is left out, and the last one.
    return ordered([word[at:at + size] for word in book.words for at in range(1, len(word) - size)])


def inner_words(book):
    """The set of the words that lie within other words."""
    check_book(book)
    insides = _insides(book)
    return tuple([word for word in book.words if _is_within(book, insides, word)])


def outer_words(book):
    """The set of the other words."""
    check_book(book)
    insides = _insides(book)
    return tuple([word for word in book.words if not _is_within(book, insides, word)])


def extensions(book, text):
    """The sets of all texts, not empty, that make a word ahead of the text, and behind it."""
    check_book(book)
    check_text(book.letters, text)
    longer = [word for word in book.words if len(word) > len(text)]
    # The words are in order, and so is what is left of them, since all of them lose the same letters.
    ahead = [word[:len(word) - len(text)] for word in longer if word.endswith(text)]
    behind = [word[len(text):] for word in longer if word.startswith(text)]
    return tuple(ahead), tuple(behind)


def _insides(book):
    """What is between the first and the last letters of the words, in one text, which is searched fast."""
    return " ".join([word[1:-1] for word in book.words])


def _is_within(book, insides, text):
    # The empty text stands in a word of one letter, too, but does not lie within it.
    return book.longest > 1 and text in insides
