"""Full books for the tests, made without the parts of the program that are tested with them."""

import random
from fractions import Fraction
from functools import lru_cache

from tests.samples import NINE, PAIRS, all_texts, comparable
from twowaycuts.book.books import Book


def set_in_order(texts):
    """The set of some texts, in the order of [0.7]."""
    return tuple(sorted(set(texts), key=lambda text: (len(text), text)))


def is_full_plain(letters, words):
    return sum((Fraction(1, len(letters) ** len(word)) for word in words), Fraction(0)) == 1


def plain_count(words, text):
    """L or M of a text: the number of its beginnings that no word ends."""
    return sum(1 for end in range(len(text) + 1) if not any(text[:end].endswith(word) for word in words))


def plain_inner(book, text):
    """Whether the text is an inner text, by [0.11]."""
    return any(word[start:start + len(text)] == text for word in book.words
               for start in range(1, len(word) - len(text)))


def plain_degree(book):
    """L of a text that is longer than all words."""
    return plain_count(book.words, book.letters * (book.longest + 1))


@lru_cache(maxsize=None)
def _codes(letters, longest):
    """All full sets of words up to a length no one of which begins another one; the empty word alone, too."""
    if longest == 0:
        return [("",)]
    rows = [()]
    for letter in letters:
        rows = [row + tuple(letter + word for word in code) for row in rows for code in _codes(letters, longest - 1)]
    return [("",)] + rows


@lru_cache(maxsize=None)
def all_full(letters, longest):
    """All full books with words up to a length."""
    found = []
    for code in _codes(letters, longest):
        turned = sorted(word[::-1] for word in code)
        if code != ("",) and not any(two.startswith(one) for one, two in zip(turned, turned[1:])):
            found.append(Book(letters, code))
    return found


def plain_can_exchange(book, text):
    """By [11.1], word by word."""
    begins = any(word != text and word[:len(text)] == text for word in book.words)
    ends = any(word != text and word[len(word) - len(text):] == text and len(word) > len(text) for word in book.words)
    both = any(word[:len(text)] == text and word.endswith(text) for word in book.words)
    return begins and ends and not both


def plain_exchange(book, text):
    """The words of the exchanged book, by [11.1]."""
    ahead = [word[:len(word) - len(text)] for word in book.words if word.endswith(text)]
    behind = [word[len(text):] for word in book.words if word.startswith(text)]
    kept = [word for word in book.words if not word.startswith(text) and not word.endswith(text)]
    return kept + [text] + [one + text + other for one in ahead for other in behind]


def changed(book, seed, steps):
    """The book behind some exchanges, by chance, as long as it has at most 400 words."""
    chance = random.Random(seed)
    for _ in range(steps):
        texts = set_in_order(word[:at] for word in book.words for at in range(1, len(word)))
        texts = [text for text in texts if plain_can_exchange(book, text)]
        if not texts:
            break
        words = plain_exchange(book, chance.choice(texts))
        if len(words) > 400:
            break
        book = Book(book.letters, tuple(words))
    return book


def all_changed(book):
    """The book and all books that come of it by exchanges, one after another."""
    found = {book.words: book}
    waiting = [book]
    while waiting:
        one = waiting.pop()
        for text in set_in_order(word[:at] for word in one.words for at in range(1, len(word))):
            if plain_can_exchange(one, text):
                words = set_in_order(plain_exchange(one, text))
                if words not in found:
                    found[words] = Book(one.letters, words)
                    waiting.append(found[words])
    return list(found.values())


# All full books of the degrees 1 to 4 over two letters, of 1 to 3 over three letters, and some over one letter.
SMALL_FULL = [book for size in (1, 2, 3, 4) for book in all_changed(Book.uniform("ab", size))]
SMALL_FULL += [book for size in (1, 2, 3) for book in all_changed(Book.uniform("abc", size))]
SMALL_FULL += [Book("m", ("m" * size,)) for size in (1, 2, 3, 7)]
# Greater ones.
GREAT_FULL = [changed(Book.uniform("ab", size), seed, seed) for size in (5, 6) for seed in range(1, 9)]
GREAT_FULL += [changed(Book.uniform("bz", 7), seed, 40) for seed in range(4)]
GREAT_FULL += [changed(Book.uniform("abc", 4), seed, 3 * seed) for seed in range(1, 5)]
GREAT_FULL += [PAIRS * NINE, NINE * PAIRS, NINE * NINE, changed(NINE * NINE, 5, 9), Book.uniform("ab", 8),
               Book.uniform("abc", 5), Book("m", ("m" * 400,)), changed(NINE * PAIRS, 2, 30)]
FULL = SMALL_FULL + GREAT_FULL


def plain_free(book, longest=9):
    """The first free text up to a length, by trying all texts, or None."""
    for text in all_texts(book.letters, longest)[1:]:
        if not any(comparable(text, word) for word in book.words):
            return text
    return None
