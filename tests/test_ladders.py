"""[10.1] and stage 10: plans of books, thinner and thicker books."""

import unittest
from itertools import combinations

from tests.fullbooks import (FULL, GREAT_FULL, SMALL_FULL, is_full_plain, plain_count, plain_degree, plain_free,
                             plain_inner)
from tests.refused import Refusing
from tests.samples import ALIKE, FEW, NINE, NO_BOOKS, PAIRS, SPREAD, THIN, all_books, all_texts
from twowaycuts.book.books import Book
from twowaycuts.book.full import first_free
from twowaycuts.errors import InvalidBook, InvalidOperation, NotFull, TooMany
from twowaycuts.full.inner import degree, inner_words
from twowaycuts.plan.ladders import heights, ladder, plan_of, thicker, thinner
from twowaycuts.plan.outcomes import book_of
from twowaycuts.plan.plans import Plan

CALLS = [plan_of, thinner, thicker, ladder, heights]


class Examples(unittest.TestCase):
    def test_first(self):
        told = [plan_of(NINE) == Plan("ab", ("ab",), 3), thinner(NINE) == PAIRS, thinner(PAIRS).words,
                thicker(PAIRS) == Book.uniform("ab", 3), [len(one) for one in ladder(NINE)]]
        self.assertEqual(told, [True, True, ("a", "b"), True, [9, 4, 2]])

    def test_second(self):
        told = [degree(thicker(NINE)), inner_words(thicker(NINE)), thinner(thicker(NINE)) == NINE, heights(NINE)["ab"],
                heights(NINE)["aaba"]]
        self.assertEqual(told, [4, ("ab",), True, 2, 3])


class Plans(unittest.TestCase):
    def test_all(self):
        for book in FULL:
            inner = tuple(word for word in book.words if plain_inner(book, word))
            self.assertEqual(plan_of(book), Plan(book.letters, inner, plain_degree(book)))
            self.assertEqual(book_of(plan_of(book)), book)


class Heights(unittest.TestCase):
    def test_all(self):
        for book in SMALL_FULL + GREAT_FULL[::3]:
            told = heights(book)
            self.assertIs(type(told), dict)
            self.assertEqual(list(told), list(book.words))
            for word in book.words:
                self.assertEqual(told[word], plain_count(book.words, word))
                self.assertEqual(told[word] < plain_degree(book), plain_inner(book, word))

    def test_nothing_is_shared(self):
        heights(NINE)["ab"] = 9
        self.assertEqual(heights(NINE)["ab"], 2)
        self.assertEqual(heights(NINE), {"ab": 2, "aaa": 3, "baa": 3, "bba": 3, "bbb": 3, "aaba": 3, "aabb": 3,
                                         "baba": 3, "babb": 3})


class Thinner(unittest.TestCase, Refusing):
    def test_all(self):
        for book in FULL:
            size = plain_degree(book)
            if size == 1:
                self.check_error(thinner, (book,), InvalidOperation)
                continue
            told = thinner(book)
            self.assertTrue(is_full_plain(told.letters, told.words))
            self.assertEqual((told.letters, plain_degree(told)), (book.letters, size - 1))
            inner = [word for word in book.words if plain_count(book.words, word) <= size - 2]
            self.assertEqual(list(inner_words(told)), inner)
            for text in list(book.words[::9]) + all_texts(book.letters, 3):
                self.assertEqual(plain_count(told.words, text), min(size - 1, plain_count(book.words, text)))

    def test_ways_of_all_texts(self):
        for book in [book for book in SMALL_FULL[::3] if plain_degree(book) > 1]:
            told = thinner(book)
            for text in all_texts(book.letters, 5):
                self.assertEqual(plain_count(told.words, text),
                                 min(plain_degree(book) - 1, plain_count(book.words, text)))

    def test_letters(self):
        for letters in ["a", "ab", "xyz"]:
            self.check_error(thinner, (Book.uniform(letters, 1),), InvalidOperation)
            self.assertEqual(thinner(Book.uniform(letters, 2)), Book.uniform(letters, 1))
        self.assertEqual(thinner(Book("m", ("m" * 400,))), Book("m", ("m" * 399,)))
        self.assertEqual(thinner(Book.uniform("ab", 8)), Book.uniform("ab", 7))


class Thicker(unittest.TestCase, Refusing):
    def test_all(self):
        seen = set()
        for book in FULL:
            size = plain_degree(book)
            if len(book) >= 2 ** 7 or book == Book("m", ("m" * 400,)):
                self.check_error(thicker, (book,), TooMany, {"limit": 400})
                continue
            try:
                told = thicker(book)
            except TooMany as error:
                self.assertEqual(error.limit, 400)
                self.assertGreater(len(book), 40)
                continue
            seen.add((book.letters, size))
            self.assertTrue(is_full_plain(told.letters, told.words))
            self.assertEqual((told.letters, plain_degree(told)), (book.letters, size + 1))
            self.assertEqual(inner_words(told), inner_words(book))
            self.assertEqual(thinner(told), book)
        self.assertLessEqual({("ab", 6), ("abc", 3), ("ab", 4), ("m", 7)}, seen)

    def test_limits(self):
        self.assertEqual(thicker(Book.uniform("ab", 7)), Book.uniform("ab", 8))
        self.assertEqual(thicker(Book.uniform("abc", 4)), Book.uniform("abc", 5))
        self.assertEqual(thicker(Book("m", ("m" * 399,))), Book("m", ("m" * 400,)))
        for book in [Book.uniform("ab", 8), Book.uniform("abc", 5), Book("m", ("m" * 400,))]:
            self.check_error(thicker, (book,), TooMany, {"limit": 400})


class Ladders(unittest.TestCase):
    def test_all(self):
        for book in SMALL_FULL + GREAT_FULL[::3]:
            told = ladder(book)
            self.assertIs(type(told), tuple)
            self.assertEqual((told[0], len(told)), (book, plain_degree(book)))
            self.assertEqual(told[-1], Book.uniform(book.letters, 1))
            for one, other in zip(told, told[1:]):
                self.assertEqual(thinner(one), other)

    def test_ends(self):
        self.assertEqual(ladder(Book("ab", ("a", "b"))), (Book("ab", ("a", "b")),))
        told = ladder(Book("m", ("m" * 400,)))
        self.assertEqual([one.words for one in told], [("m" * size,) for size in range(400, 0, -1)])
        self.assertEqual(ladder(Book.uniform("abc", 5)), tuple(Book.uniform("abc", size) for size in (5, 4, 3, 2, 1)))


class Statements(unittest.TestCase):
    def test_same_degree_and_lengths(self):
        # [0.17]: full books with the same degree and the same lengths need not be equal.
        other = book_of(Plan("ab", ("ba",), 3))
        self.assertNotEqual(other, NINE)
        self.assertEqual((degree(other), [len(word) for word in other]), (3, [len(word) for word in NINE]))

    def test_mean_that_is_a_whole_number(self):
        # [0.17]: a book need not be full if the mean length is a whole number.
        book = Book("ab", tuple(all_texts("ab", 4)[15:19]))
        self.assertEqual(sum(len(word) * 2 ** (4 - len(word)) for word in book), 16)
        with self.assertRaises(NotFull):
            degree(book)

    def test_letters_as_words(self):
        # [0.18], and [0.17]: so a book with a letter and another word, no letter, is no part of a full one.
        for book in FULL:
            if any(len(word) == 1 for word in book):
                self.assertEqual(book, Book.uniform(book.letters, 1))
        self.assertFalse([book for book in FULL if "a" in book and "bb" in book])
        self.assertIsNotNone(first_free(Book("ab", ("a", "bb"))))

    def test_shorter_inner_words(self):
        # [0.18]: inner words no one of which is longer than one that is left out have a book.
        for book in [book for book in GREAT_FULL if 1 < len(inner_words(book)) < 12]:
            inner = inner_words(book)
            for many in range(len(inner) + 1):
                for words in list(combinations(inner, many))[:8]:
                    left = [len(word) for word in inner if word not in words]
                    if not left or not words or len(words[-1]) <= min(left):
                        told = book_of(Plan(book.letters, words, degree(book)))
                        self.assertEqual((inner_words(told), degree(told)), (words, degree(book)))


class Errors(unittest.TestCase, Refusing):
    def test_wrong_arguments(self):
        for call in CALLS:
            self.check_wrong(call, (NINE, NO_BOOKS, InvalidBook))

    def test_not_full(self):
        books = [FEW, NINE.without_word("ab"), Book("ab", ()), Book("ab", ("a",)), Book("m", ())]
        books += [Book("abc", ("a", "b"))]
        books += [book for book in all_books("ab", 2, 3) if not is_full_plain("ab", book.words)]
        for call in CALLS:
            for book in books:
                self.check_error(call, (book,), NotFull, {"text": plain_free(book)})
            for book in [ALIKE, SPREAD, THIN]:
                self.check_error(call, (book,), NotFull, {"text": first_free(book)})

    def test_nothing_changes(self):
        book = Book("ab", NINE.words)
        for call in CALLS:
            self.assertEqual(call(book), call(book))
        self.assertEqual(book, NINE)


if __name__ == "__main__":
    unittest.main()
