"""Full books with the same inner words, or some of them, and other degrees."""

from twowaycuts.base.names import MAX_WORD
from twowaycuts.book.books import check_book
from twowaycuts.book.finds import unended
from twowaycuts.book.full import check_full
from twowaycuts.errors import InvalidOperation, TooMany
from twowaycuts.full.inner import degree_of, inner_words
from twowaycuts.plan.outcomes import book_of
from twowaycuts.plan.plans import MAX_DEGREE, Plan


def plan_of(book):
    """The plan of the book."""
    check_book(book)
    check_full(book)
    return Plan(book.letters, inner_words(book), degree_of(book))


def thinner(book):
    """The thinner book."""
    check_book(book)
    check_full(book)
    if degree_of(book) == 1:
        raise InvalidOperation("the letters have no thinner book")
    return _thinned(book)


def thicker(book):
    """The thicker book."""
    check_book(book)
    check_full(book)
    return book_of(Plan(book.letters, inner_words(book), degree_above(book)))


def ladder(book):
    """The book, its thinner book, the thinner one of that, and so on, down to the letters."""
    check_book(book)
    check_full(book)
    books = [book]
    for _ in range(degree_of(book) - 1):
        books.append(_thinned(books[-1]))
    return tuple(books)


def heights(book):
    """The dict from all words, in order, to L of them."""
    check_book(book)
    check_full(book)
    return _heights(book)


def degree_above(book):
    """The degree of the books whose thinner one is the full book; TooMany if no book is so great."""
    above = degree_of(book) + 1
    # Only over one letter a book has such a degree, and the one above it has a longer word.
    if above > MAX_DEGREE:
        raise TooMany(MAX_WORD)
    return above


def _thinned(book):
    below = degree_of(book) - 1
    told = _heights(book)
    return book_of(Plan(book.letters, tuple([word for word in told if told[word] < below]), below))


def _heights(book):
    # In a book no word ends another one, so of the beginnings of a text L counts just those that no word ends.
    return {word: many for word, many in zip(book.words, unended(book.words, book.words))}
