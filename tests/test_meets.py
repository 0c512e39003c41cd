"""[20.1] and stage 20: words of books in mirror rows."""

import unittest

from tests.fullbooks import FULL, SMALL_FULL, plain_degree
from tests.mirrored import GOLD, ROWS, long_start
from tests.refused import Refusing, error_of
from tests.samples import ALIKE, FEW, NINE, NO_BOOKS, NO_ROWS, PAIRS, SPREAD, THIN, all_books
from twowaycuts.book.books import Book
from twowaycuts.errors import InvalidBook, InvalidOperation, NotFull
from twowaycuts.row.meets import free_forks, words_standing
from twowaycuts.row.mirrors import MirrorRow, fork

SMALL = list(all_books("ab", 3, 3)) + list(all_books("abc", 2, 2)) + list(all_books("a", 4, 1))


class Examples(unittest.TestCase):
    def test_first(self):
        told = [words_standing(NINE, GOLD), words_standing(PAIRS, GOLD), words_standing(FEW, GOLD), free_forks(NINE, GOLD),
                free_forks(PAIRS, GOLD)]
        self.assertEqual(told, [("ab", "baa", "aaba", "baba"), ("aa", "ab", "ba"), ("ab", "ba"), (0, 1, 2), (0, 1)])

    def test_second(self):
        told = [len(words_standing(Book.uniform("abc", 3), MirrorRow("abc", "", "cab"))),
                free_forks(Book("ab", ("a", "b")), GOLD)]
        self.assertEqual(told, [7, (0,)])


class Meets(unittest.TestCase, Refusing):
    def test_full_books(self):
        for book in FULL:
            many = plain_degree(book)
            for row in ROWS[book.letters]:
                words = words_standing(book, row)
                self.assertEqual(words, tuple(word for word in book.words if word in row))
                whole = long_start(row, 3000 if book.longest < 100 else 900)
                self.assertEqual(words, tuple(word for word in book.words if word in whole))
                self.assertEqual(len(words), (len(book.letters) - 1) * many + 1)
                forks = free_forks(book, row)
                self.assertEqual(len(forks), many)
                sizes = range(book.longest + 3)
                self.assertEqual(forks, tuple(size for size in sizes
                                              if not any(fork(row, size).startswith(word) for word in book.words)))

    def test_any_books(self):
        for book in SMALL:
            for row in ROWS[book.letters]:
                whole = long_start(row, 2000)
                self.assertEqual(words_standing(book, row), tuple(word for word in book.words if word in whole))
        for letters in ("a", "ab", "abc"):
            self.assertEqual(words_standing(Book(letters, ()), ROWS[letters][0]), ())

    def test_large_books(self):
        for book in (ALIKE, SPREAD, THIN):
            for row in ROWS["ab"]:
                self.assertEqual(words_standing(book, row), tuple(word for word in book.words if word in row))
        start = GOLD.start(2400)
        words = tuple(sorted({start[at:at + 400] for at in range(2000)}))
        self.assertEqual((len(words), words_standing(Book("ab", words[:400]), GOLD)), (401, words[:400]))

    def test_books_that_are_not_full(self):
        for book, text in ((FEW, "aa"), (Book("ab", ()), "a"), (Book("ab", ("a", "bb")), "bab"), (NINE.without_word("ab"), "ab")):
            for row in ROWS["ab"] + [ROWS["abc"][0], ROWS["a"][0]]:
                self.check_error(free_forks, (book, row), NotFull, {"text": text})

    def test_other_letters(self):
        for book in (NINE, PAIRS):
            for row in (ROWS["abc"][0], ROWS["a"][0], ROWS["bz"][0]):
                self.check_error(words_standing, (book, row), InvalidOperation)
                self.check_error(free_forks, (book, row), InvalidOperation)
        self.check_error(words_standing, (FEW, ROWS["abc"][0]), InvalidOperation)
        self.assertIsNone(error_of(free_forks, (SMALL_FULL[0], GOLD)))

    def test_wrong_arguments(self):
        self.check_wrong(words_standing, (FEW, NO_BOOKS, InvalidBook), (GOLD, NO_ROWS, InvalidOperation))
        self.check_wrong(free_forks, (NINE, NO_BOOKS, InvalidBook), (GOLD, NO_ROWS, InvalidOperation))
        for value in NO_ROWS:
            self.check_error(free_forks, (FEW, value), InvalidOperation)


if __name__ == "__main__":
    unittest.main()
