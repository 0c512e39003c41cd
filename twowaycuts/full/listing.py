"""All full books of a degree, each found from its thinner book."""

from twowaycuts.base.names import check_letters, check_number
from twowaycuts.book.books import Book, check_book
from twowaycuts.book.full import check_full
from twowaycuts.errors import InvalidOperation, TooMany
from twowaycuts.full.inner import degree_of, inner_words, outer_words
from twowaycuts.plan.ladders import degree_above
from twowaycuts.plan.outcomes import book_or_ring
from twowaycuts.plan.plans import MAX_DEGREE

MAX_OUTER = 9


def thickened(book):
    """A generator of all full books whose thinner one is the book."""
    check_book(book)
    check_full(book)
    inner = inner_words(book)
    outer = outer_words(book)
    if len(outer) > MAX_OUTER:
        raise TooMany(MAX_OUTER)
    degree = degree_above(book)
    taken = [()]
    while taken:
        fitting = []
        for row in taken:
            found = book_or_ring(book.letters, inner + row, degree)
            if found is not None:
                yield found
                fitting.append(row)
        taken = _greater(outer, fitting)


def _greater(outer, rows):
    """The tuples with one word more than the rows have that have no part of this size but such rows, in order."""
    # A ring of a plan is one of each plan with more words, too, if that has no flaw. All outer words together make a
    # flaw, but they would have a ring as well: so they are found nowhere.
    known = {row: True for row in rows}
    found = []
    for at, word in enumerate(outer):
        for row in rows:
            # What is put behind a row comes behind its last word.
            if not row or row[-1] in outer[:at]:
                longer = row + (word,)
                if all([longer[:less] + longer[less + 1:] in known for less in range(len(row))]):
                    found.append(longer)
    return sorted(found)


def full_books(letters, degree):
    """A generator of all full books of a degree with these letters."""
    check_letters(letters)
    check_number(degree, 1, MAX_DEGREE)
    # The last one comes next; those of a lower degree make room for the books above them.
    waiting = [Book.uniform(letters, 1)]
    while waiting:
        book = waiting.pop()
        if degree_of(book) == degree:
            yield book
        elif degree_of(book) == degree - 1:
            yield from thickened(book)
        else:
            waiting.extend(list(thickened(book))[::-1])


def count_full(letters, degree):
    """The number of all full books of a degree with these letters."""
    return len(list(full_books(letters, degree)))


def arrows_of(book):
    """The inner words of a full book of degree 3: two letters each, an arrow from the first to the second one."""
    check_book(book)
    check_full(book)
    if degree_of(book) != 3:
        raise InvalidOperation("the degree has to be 3")
    return inner_words(book)
