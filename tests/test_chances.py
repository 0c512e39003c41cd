"""[0.10], [0.14] and stage 4: shares and chances."""

import unittest
from fractions import Fraction
from math import gcd

from tests.samples import ALIKE, FEW, NINE, NO_BOOKS, NO_TUPLES, PAIRS, SPREAD, STRANGE, THIN, all_books
from twowaycuts.book.books import Book
from twowaycuts.book.chances import chance, mean, numbers, share
from twowaycuts.errors import InvalidBook, InvalidOperation

EMPTY = Book("ab", ())
GREAT = 10 ** 200 - 1
CHANCES = [(1, 1), (2, 5), (0, 1), (7, 0), (3, 3), (1, 10 ** 50), (GREAT, GREAT - 1), (GREAT, 0), (10 ** 199, 6)]
NO_INTEGERS = [value for value in STRANGE if type(value) is not int]


def plain(book, chances, weigh):
    """The sum as the document tells it, word by word."""
    total = Fraction(0)
    for word in book.words:
        part = Fraction(weigh(word))
        for letter in word:
            part *= Fraction(chances[book.letters.index(letter)], sum(chances))
        total += part
    return (total.numerator, total.denominator)


class Examples(unittest.TestCase):
    def test_first(self):
        told = [share(FEW), share(NINE), numbers(NINE), chance(NINE, (2, 5)), mean(NINE, (1, 1)), mean(NINE, (2, 5)),
                mean(NINE, (0, 1))]
        self.assertEqual(told, [(1, 2), (1, 1), (0, 1, 4, 4), (1, 1), (3, 1), (3, 1), (3, 1)])

    def test_second(self):
        told = [mean(FEW, (1, 2)), chance(FEW, (1, 2)), share(EMPTY), numbers(EMPTY)]
        self.assertEqual(told, [(8, 9), (4, 9), (0, 1), ()])


class Sums(unittest.TestCase):
    def test_small_books(self):
        for book in all_books("ab", 3, 3):
            self.assertEqual(share(book), plain(book, (1, 1), lambda word: 1))
            for chances in CHANCES[:6]:
                self.assertEqual(chance(book, chances), plain(book, chances, lambda word: 1))
                self.assertEqual(mean(book, chances), plain(book, chances, len))

    def test_one_and_three_letters(self):
        one = Book("m", ("mmm",))
        self.assertEqual((share(one), chance(one, (5,)), mean(one, (GREAT,)), numbers(one)),
                         ((1, 1), (1, 1), (3, 1), (0, 0, 1)))
        three = Book("acz", ("a", "cz", "ccc", "zac"))
        self.assertEqual(share(three), (14, 27))
        for chances in [(1, 1, 1), (0, 0, 5), (3, 0, 2), (GREAT, 1, 10 ** 150)]:
            self.assertEqual(chance(three, chances), plain(three, chances, lambda word: 1))
            self.assertEqual(mean(three, chances), plain(three, chances, len))

    def test_chances_belong_to_letters_in_order(self):
        book = Book("ab", ("a", "bb"))
        self.assertEqual(chance(book, (1, 3)), (13, 16))
        self.assertEqual(mean(book, (1, 3)), (11, 8))
        self.assertEqual((chance(book, (0, 1)), chance(book, (1, 0))), ((1, 1), (1, 1)))
        self.assertEqual((mean(book, (0, 1)), mean(book, (1, 0))), ((2, 1), (1, 1)))

    def test_chances_of_nothing(self):
        self.assertEqual(chance(FEW, (0, 4)), (0, 1))
        self.assertEqual(mean(FEW, (4, 0)), (0, 1))
        for chances in CHANCES:
            self.assertEqual((chance(EMPTY, chances), mean(EMPTY, chances)), ((0, 1), (0, 1)))
        for letters in ["a", "abc"]:
            self.assertEqual((share(Book(letters, ())), numbers(Book(letters, ()))), ((0, 1), ()))

    def test_long_numbers(self):
        for chances in CHANCES:
            for book in [FEW, NINE, Book("ab", ("a", "baab", "bb"))]:
                self.assertEqual(chance(book, chances), plain(book, chances, lambda word: 1))
                self.assertEqual(mean(book, chances), plain(book, chances, len))

    def test_full_books(self):
        for book, degree in [(Book("ab", ("a", "b")), 1), (PAIRS, 2), (NINE, 3), (PAIRS * NINE, 5)]:
            self.assertEqual(share(book), (1, 1))
            for chances in CHANCES:
                self.assertEqual(chance(book, chances), (1, 1))
                self.assertEqual(mean(book, chances), (degree, 1))
        book = Book.uniform("abc", 5)
        for chances in [(1, 1, 1), (GREAT, 10 ** 199 + 3, 77), (0, 5, 0)]:
            self.assertEqual((chance(book, chances), mean(book, chances)), ((1, 1), (5, 1)))

    def test_share_is_at_most_one(self):
        for book in all_books("ab", 3, 8):
            numerator, denominator = share(book)
            self.assertTrue(0 <= numerator <= denominator)
            self.assertEqual(gcd(numerator, denominator), 1)

    def test_large_books(self):
        self.assertEqual(share(ALIKE), (400 // 16, 2 ** 396))
        self.assertEqual(share(SPREAD), (25, 2 ** 396))
        self.assertEqual(share(THIN), (2 ** 400 - 1, 2 ** 400))
        self.assertEqual(chance(ALIKE, (1, 0)), (0, 1))
        self.assertEqual(mean(ALIKE, (1, 1)), (400 * 25 // 16, 2 ** 392))
        self.assertEqual(chance(THIN, (1, 1)), (2 ** 400 - 1, 2 ** 400))
        numerator, denominator = chance(SPREAD, (GREAT, 10 ** 199 + 7))
        self.assertEqual(gcd(numerator, denominator), 1)
        total = GREAT + 10 ** 199 + 7
        counted = sum(GREAT ** word.count("a") * (10 ** 199 + 7) ** word.count("b") for word in SPREAD)
        self.assertEqual(numerator * total ** 400, counted * denominator)

    def test_numbers(self):
        self.assertEqual(numbers(FEW), (0, 2))
        self.assertEqual(numbers(Book("ab", ("b", "aaaa", "aba"))), (1, 0, 1, 1))
        self.assertEqual(numbers(ALIKE), (0,) * 399 + (400,))
        self.assertEqual(numbers(THIN), (1,) * 400)
        for book in all_books("ab", 3, 3):
            self.assertEqual(sum(numbers(book)), len(book))
            self.assertEqual(len(numbers(book)), book.longest)


class Errors(unittest.TestCase):
    def test_books(self):
        for book in NO_BOOKS:
            for call in [share, numbers]:
                with self.assertRaises(InvalidBook):
                    call(book)
            for call in [chance, mean]:
                for chances in [(1, 1), (0, 0), 5]:
                    with self.assertRaises(InvalidBook):
                        call(book, chances)

    def test_no_chances(self):
        wrong = NO_TUPLES + [(), (1,), (1, 1, 1), (0, 0), (-1, 2), (1, -1), (1, 10 ** 200), (10 ** 300 - 1, 1), [1, 1],
                             (True, 1), (1, False), (0, True), ("1", 1), ((1, 1),), {0: 1, 1: 1}, "ab"]
        wrong += [(1, value) for value in NO_INTEGERS] + [(value, 1) for value in NO_INTEGERS]
        for call in [chance, mean]:
            for book in [FEW, EMPTY]:
                for chances in wrong:
                    with self.assertRaises(InvalidOperation):
                        call(book, chances)
            for letters, chances in [("a", (1, 1)), ("a", (0,)), ("a", ()), ("abc", (1, 1)), ("abc", (0, 0, 0))]:
                with self.assertRaises(InvalidOperation):
                    call(Book(letters, ()), chances)


if __name__ == "__main__":
    unittest.main()
