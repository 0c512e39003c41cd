"""The numbers of words with 1, 2, .. letters that a book can have."""

from twowaycuts.base.names import MAX_WORD, check_letters, is_integer
from twowaycuts.base.picks import picks
from twowaycuts.book.books import MAX_WORDS, Book, do_clash
from twowaycuts.book.chances import many_of_each
from twowaycuts.errors import InvalidOperation, TooMany
from twowaycuts.full.listing import full_books

MAX_TWO = 4
MAX_THREE = 3


def can_have(letters, numbers):
    """Whether some book has the numbers."""
    _check_numbers(letters, numbers)
    _check_limit(letters, numbers)
    share, whole = _share(letters, numbers)
    return 2 * share <= whole or (share <= whole and _tried(letters, numbers) is not None)


def have(letters, numbers):
    """A book with the numbers, or None."""
    _check_numbers(letters, numbers)
    _check_limit(letters, numbers)
    share, whole = _share(letters, numbers)
    if share > whole:
        return None
    words = _first_words(letters, numbers) if 2 * share <= whole else _tried(letters, numbers)
    return Book(letters, words) if words is not None else None


def half_book(letters, numbers):
    """The book with the numbers that has the words that come first."""
    _check_numbers(letters, numbers)
    share, whole = _share(letters, numbers)
    if 2 * share > whole:
        raise InvalidOperation("the share is greater than one half")
    return Book(letters, _first_words(letters, numbers))


def may_be_full(letters, numbers):
    """Whether the numbers meet what those of full books have to."""
    _check_numbers(letters, numbers)
    share, whole = _share(letters, numbers)
    lengths = [many * size for size, many in enumerate(numbers, 1)]
    total, _ = _share(letters, lengths)
    if share != whole or total % whole != 0:
        return False
    mean = total // whole
    return numbers[mean - 1] >= len(letters) and (mean == 1 or numbers[0] == 0)


def full_numbers(letters, degree):
    """The numbers of all full books of a degree, ascending."""
    return tuple(sorted(set([many_of_each(book.words) for book in full_books(letters, degree)])))


def _check_numbers(letters, numbers):
    check_letters(letters)
    if not isinstance(numbers, tuple) or len(numbers) > MAX_WORD:
        raise InvalidOperation("numbers are a tuple of at most 400 integers")
    if not all([is_integer(many) and many >= 0 for many in numbers]) or sum(numbers) > MAX_WORDS:
        raise InvalidOperation("numbers are integers of at least 0 that add up to at most 400")
    if numbers and numbers[-1] == 0:
        raise InvalidOperation("the last one of the numbers is not 0")


def _check_limit(letters, numbers):
    share, whole = _share(letters, numbers)
    if whole < 2 * share <= 2 * whole:
        if len(letters) == 2 and len(numbers) > MAX_TWO:
            raise TooMany(MAX_TWO)
        if len(letters) == 3 and len(numbers) > MAX_THREE:
            raise TooMany(MAX_THREE)


def _share(letters, numbers):
    """The sum of the shares, as numerator and denominator, not in lowest terms."""
    share, whole = 0, 1
    for many in numbers:
        share = share * len(letters) + many
        whole = whole * len(letters)
    return share, whole


def _tried(letters, numbers):
    """The words of the first book with the numbers that is found when all are tried, or None."""
    rows = [()]
    texts = [""]
    for many in numbers[:-1]:
        texts = [text + letter for text in texts for letter in letters]
        rows = [row + taken for row in rows for taken in picks(_standing(row, texts), many)]
    texts = [text + letter for text in texts for letter in letters]
    # Of the longest words none stands in the way of another one.
    for row in rows:
        left = _standing(row, texts)
        if len(left) >= numbers[-1]:
            return row + tuple(left[:numbers[-1]])
    return None


def _standing(words, texts):
    return [text for text in texts if not any([do_clash(word, text) for word in words])]


def _first_words(letters, numbers):
    words = []
    for size, many in enumerate(numbers, 1):
        words = words + _first_texts(letters, words, size, many)
    return tuple(words)


def _first_texts(letters, words, size, many):
    """The first texts of a size, so many, that no one of some shorter words begins or ends."""
    shorter = {word: True for word in words}
    sizes = sorted(set([len(word) for word in words]))
    found = []
    # Beginnings of texts, the first one last; none of them has a shorter word as a beginning.
    waiting = [""]
    while len(found) < many:
        text = waiting.pop()
        if len(text) < size:
            waiting.extend([text + letter for letter in letters[::-1] if text + letter not in shorter])
        elif not any([text[size - less:] in shorter for less in sizes]):
            found.append(text)
    return found
