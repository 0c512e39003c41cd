"""[0.10], [0.13] and stage 6: full books, and free texts."""

import unittest

from tests.samples import (ALIKE, FEW, NINE, NO_BOOKS, PAIRS, SPREAD, STRANGE, THIN, all_books, all_texts, comparable,
                           numbered)
from twowaycuts.book.books import Book
from twowaycuts.book.full import first_free, is_free, is_full
from twowaycuts.errors import InvalidBook

EMPTY = Book("ab", ())


def plain_first(book, longest):
    """The first free text up to a length, by trying all texts in order."""
    for text in all_texts(book.letters, longest)[1:]:
        if not any(comparable(text, word) for word in book.words):
            return text
    return None


class Examples(unittest.TestCase):
    def test_first(self):
        told = [is_full(NINE), is_full(FEW), first_free(FEW), first_free(PAIRS), first_free(NINE.without_word("ab")),
                first_free(EMPTY), first_free(Book("a", ("aaa",)))]
        self.assertEqual(told, [True, False, "aa", None, "ab", "a", None])

    def test_second(self):
        told = [first_free(Book("ab", ("a", "bb"))), is_free(FEW, "abb"), is_free(FEW, "bbb"),
                first_free(Book("ab", ("aa", "ab", "bb")))]
        self.assertEqual(told, ["bab", False, True, "ba"])


class First(unittest.TestCase):
    def compare(self, book, longest):
        text = first_free(book)
        wanted = plain_first(book, longest)
        if wanted is None and text is not None:
            self.assertGreater(len(text), longest)
            self.assertIs(is_free(book, text), True)
        else:
            self.assertEqual(text, wanted, book.words)
        self.assertIs(is_full(book), text is None, book.words)

    def test_all_small_books(self):
        for letters, longest, most, tried in [("a", 5, 2, 6), ("ab", 3, 8, 7), ("abc", 2, 9, 5), ("acz", 1, 3, 3)]:
            for book in all_books(letters, longest, most):
                self.compare(book, tried)

    def test_longer_words(self):
        for book in all_books("ab", 5, 2):
            self.compare(book, 6)

    def test_books_filled_step_by_step(self):
        # Each book takes its first free text as a word, until it is full or has 40 words.
        for words in [("aba",), ("a",), ("ab",), ("abab",), ("aab", "bb"), ("aaba",), ("b", "aabaa"), ("aba", "bab")]:
            book = Book("ab", words)
            while len(book) < 40 and not is_full(book):
                self.compare(book, 9)
                book = book.with_word(first_free(book))
        book = Book("abc", ("aba", "c"))
        while len(book) < 40 and not is_full(book):
            self.compare(book, 6)
            book = book.with_word(first_free(book))

    def test_a_word_less(self):
        for book in [PAIRS, NINE, Book.uniform("ab", 4), Book.uniform("abc", 2), PAIRS * NINE, Book("m", ("mmm",))]:
            self.assertIsNone(first_free(book))
            for word in book.words:
                self.compare(book.without_word(word), book.longest)
        for word in [Book.uniform("ab", 8)[0], Book.uniform("ab", 8)[77], Book.uniform("ab", 8)[255]]:
            self.assertEqual(first_free(Book.uniform("ab", 8).without_word(word)), word)
        self.assertEqual(first_free(Book.uniform("m", 400).without_word("m" * 400)), "m")

    def test_no_words(self):
        for letters, first in [("a", "a"), ("ab", "a"), ("mz", "m"), ("xyz", "x")]:
            self.assertIs(is_full(Book(letters, ())), False)
            self.assertEqual(first_free(Book(letters, ())), first)

    def test_one_letter(self):
        for size in [1, 2, 399, 400]:
            book = Book("m", ("m" * size,))
            self.assertIs(is_full(book), True)
            self.assertIsNone(first_free(book))
            self.assertIs(is_free(book, "m" * (size + 1)), False)

    def test_more_than_400_letters(self):
        self.assertEqual(first_free(THIN), "b" + "a" * 399 + "b")
        self.assertIs(is_free(THIN, first_free(THIN)), True)
        self.assertEqual(first_free(THIN.without_word("b" + "a" * 398 + "b")), "b" + "a" * 398 + "b")
        self.assertEqual(first_free(THIN.without_word("bab")), "bab")
        # Over three letters, too: the text lies between two words of more than half of it.
        book = Book("abc", ("a",) + tuple(x + "a" * many + y for many in range(99) for x in "bc" for y in "bc"))
        self.assertEqual(first_free(book), "b" + "a" * 99 + "b")

    def test_large_books(self):
        self.assertEqual((is_full(ALIKE), first_free(ALIKE)), (False, plain_first(ALIKE, 3)))
        self.assertEqual(first_free(SPREAD), plain_first(SPREAD, 9))
        self.assertIs(is_full(SPREAD), False)
        # All texts of nine letters but the last ones, long ones behind them, or ahead of them.
        for book in [Book("ab", tuple(text + "a" * 391 for text in numbered(400, 9))),
                     Book("ab", tuple("a" * 391 + text for text in numbered(400, 9))),
                     Book("ab", tuple(text + "ab" * 191 + text for text in numbered(400, 9))),
                     Book("ab", tuple(numbered(400, 9)))]:
            self.compare(book, 10)

    def test_blown_up_word(self):
        # A full book, but for one word, in whose place long words stand that begin and end with it.
        word = "abbabaab"
        short = Book.uniform("ab", 8).without_word(word).words
        book = Book("ab", short + tuple(word + middle[:384] + word for middle in SPREAD.words[:145]))
        text = first_free(book)
        self.assertTrue(text.startswith(word) and text.endswith(word) and is_free(book, text))
        # Each free text begins and ends with the word, which can overlap itself.
        tried = [word + word[many:] for many in range(7, 0, -1) if word[:many] == word[8 - many:]]
        tried += [word + middle + word for middle in all_texts("ab", 6)]
        self.assertEqual(text, [one for one in tried if is_free(book, one)][0])


class Judging(unittest.TestCase):
    def test_small_books(self):
        for book in all_books("ab", 3, 3):
            for text in all_texts("ab", 4):
                wanted = text != "" and not any(comparable(text, word) for word in book.words)
                self.assertIs(is_free(book, text), wanted)

    def test_no_values(self):
        for book in [FEW, EMPTY, PAIRS]:
            for value in STRANGE + ["", "c", "bbc", "ab\n", "b" * 4001, ("bb",), ["bb"], {"bb": 1}]:
                self.assertIs(is_free(book, value), False, value)
        self.assertIs(is_free(Book("a", ()), "b"), False)

    def test_long(self):
        self.assertIs(is_free(FEW, "b" * 4000), True)
        self.assertIs(is_free(FEW, "b" * 401), True)
        self.assertIs(is_free(THIN, "b" + "a" * 3998 + "b"), True)
        self.assertIs(is_free(THIN, "b" + "a" * 3999), False)
        self.assertIs(is_free(ALIKE, ALIKE[3] + "b"), False)
        self.assertIs(is_free(ALIKE, "b" + ALIKE[3]), False)
        self.assertIs(is_free(SPREAD, "ab" * 2000), True)

    def test_full_books_have_none(self):
        for book in [PAIRS, NINE, Book("ab", ("a", "b")), Book.uniform("abc", 2)]:
            self.assertFalse([text for text in all_texts(book.letters, 6) if is_free(book, text)])

    def test_errors(self):
        for book in NO_BOOKS:
            for call in [is_full, first_free]:
                with self.assertRaises(InvalidBook):
                    call(book)
            for value in ["a", 5, ""]:
                with self.assertRaises(InvalidBook):
                    is_free(book, value)


if __name__ == "__main__":
    unittest.main()
