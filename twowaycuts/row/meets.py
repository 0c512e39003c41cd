"""Words of books that stand in mirror rows."""

from twowaycuts.book.books import check_book
from twowaycuts.book.finds import places_in
from twowaycuts.book.full import check_full
from twowaycuts.errors import InvalidOperation
from twowaycuts.row.mirrors import check_row
from twowaycuts.row.stretches import stretches


def words_standing(book, row):
    """The set of the words of the book that stand in the row."""
    check_book(book)
    check_row(row)
    _check_letters_alike(book, row)
    # No word goes over a blank.
    texts = " ".join(stretches(row.letters, row.head, row.again, book.longest))
    return tuple([word for word in book.words if word in texts])


def free_forks(book, row):
    """The sizes of the forks of the row that have no word of the book as a beginning."""
    check_book(book)
    check_row(row)
    check_full(book)
    _check_letters_alike(book, row)
    # In a full book each text that is as long as the longest words has a word as a beginning; and all shorter forks are
    # ends of this one.
    text = row.start(book.longest)[::-1]
    found = places_in(book.words, text)
    return tuple([size for size in range(len(text) + 1) if len(text) - size not in found])


def _check_letters_alike(book, row):
    if book.letters != row.letters:
        raise InvalidOperation("the book and the row have to have the same letters")
