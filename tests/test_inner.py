"""[0.11], [0.14] and stage 7: degrees and inner texts."""

import unittest
from fractions import Fraction

from tests.fullbooks import (FULL, GREAT_FULL, SMALL_FULL, is_full_plain, plain_count, plain_degree, plain_free,
                             plain_inner, set_in_order)
from tests.refused import Refusing, no_numbers
from tests.samples import ALIKE, FEW, NINE, NO_BOOKS, PAIRS, SPREAD, THIN, all_books, all_texts, no_texts
from twowaycuts.book.books import Book
from twowaycuts.book.chances import chance, mean
from twowaycuts.book.full import first_free
from twowaycuts.errors import InvalidBook, InvalidNumber, InvalidText, NotFull
from twowaycuts.full.inner import degree, extensions, inner_texts, inner_words, is_inner, outer_words

EMPTY = Book("ab", ())


def small_books():
    """Books of all kinds, full ones and others."""
    found = list(all_books("ab", 3, 3)) + list(all_books("abc", 2, 2)) + list(all_books("m", 4, 1))
    found += [Book("ab", words) for words in [("aba", "bb"), ("a", "bab"), ("abba", "bb", "aaa"), ("ababa", "bab"),
                                              ("aa", "baab"), ("aabaa", "aba", "bb"), ("abab", "bb", "aabaa")]]
    return found + [NINE, PAIRS, NINE.without_word("ab"), PAIRS * FEW, FEW * FEW * FEW]


class Examples(unittest.TestCase):
    def test_first(self):
        told = [degree(PAIRS), degree(NINE), inner_words(NINE), len(outer_words(NINE)), inner_texts(NINE, 1),
                inner_texts(NINE, 2), inner_texts(PAIRS, 0), inner_texts(PAIRS, 1)]
        self.assertEqual(told, [2, 3, ("ab",), 8, ("a", "b"), ("ab",), ("",), ()])

    def test_second(self):
        told = [is_inner(NINE, "ab"), is_inner(NINE, "ba"), extensions(NINE, "ba"), extensions(PAIRS, "a"),
                extensions(NINE, "ab")]
        wanted = [True, False, (("b", "aa", "ba"), ("a", "ba", "bb")), (("a", "b"), ("a", "b")), ((), ())]
        self.assertEqual(told, wanted)

    def test_not_full(self):
        with self.assertRaises(NotFull) as caught:
            degree(FEW)
        self.assertEqual(caught.exception.text, "aa")


class Degree(unittest.TestCase):
    def test_full_books(self):
        told = {book.letters + str(degree(book)) for book in FULL}
        self.assertLessEqual({"ab1", "ab2", "ab3", "ab4", "ab5", "ab6", "ab8", "bz7", "abc1", "abc2", "abc3", "abc4",
                              "abc5", "m1", "m7", "m400"}, told)
        for book in FULL:
            self.assertEqual(degree(book), plain_degree(book))

    def test_letters(self):
        for book in FULL:
            for letter in book.letters:
                self.assertIn(letter * degree(book), book)

    def test_ways_of_all_texts(self):
        # L is the degree for each text that is no inner text, and less for each inner one.
        for book in SMALL_FULL:
            size = {1: 12, 2: 8, 3: 5}[len(book.letters)]
            for text in all_texts(book.letters, size):
                ways = plain_count(book.words, text)
                self.assertEqual(ways < degree(book), is_inner(book, text), (book.words, text))
                self.assertLessEqual(ways, degree(book))

    def test_ways_of_parts_of_words(self):
        for book in GREAT_FULL:
            for word in book.words[::29]:
                for text in [word, word[1:], word[1:-1], word[:-1], word[2:-1], word + word]:
                    ways = plain_count(book.words, text)
                    self.assertEqual((ways < degree(book), ways > degree(book)), (is_inner(book, text), False))

    def test_mean_length(self):
        for book in FULL:
            many = len(book.letters)
            mean = sum(Fraction(len(word), many ** len(word)) for word in book.words)
            self.assertEqual(degree(book), mean)

    def test_all_chances(self):
        for book in SMALL_FULL[::4] + GREAT_FULL[::4]:
            for chances in [(1, 1, 1), (2, 5, 3), (1, 0, 0), (3, 1, 0), (10 ** 199, 1, 7)]:
                told = chances[:len(book.letters)]
                self.assertEqual((chance(book, told), mean(book, told)), ((1, 1), (degree(book), 1)))

    def test_product(self):
        for one, two in [(PAIRS, NINE), (NINE, NINE), (Book("ab", ("a", "b")), NINE), (PAIRS, PAIRS)]:
            self.assertEqual(degree(one * two), degree(one) + degree(two))

    def test_others(self):
        for book in small_books():
            if is_full_plain(book.letters, book.words):
                self.assertEqual(degree(book), plain_degree(book))
            else:
                with self.assertRaises(NotFull) as caught:
                    degree(book)
                self.assertEqual(caught.exception.text, plain_free(book))
        for book in [ALIKE, SPREAD, THIN]:
            with self.assertRaises(NotFull) as caught:
                degree(book)
            self.assertEqual(caught.exception.text, first_free(book))
        # More than 400 letters.
        with self.assertRaises(NotFull) as caught:
            degree(THIN)
        self.assertEqual(caught.exception.text, "b" + "a" * 399 + "b")


class Inner(unittest.TestCase):
    def test_small_books(self):
        for book in small_books() + SMALL_FULL[::5]:
            for text in all_texts(book.letters, 4):
                self.assertIs(is_inner(book, text), plain_inner(book, text), (book.words, text))
            for size in range(7):
                wanted = {word[at:at + size] for word in book.words for at in range(1, len(word) - size)}
                self.assertEqual(inner_texts(book, size), set_in_order(wanted), (book.words, size))

    def test_sets_are_in_order(self):
        self.assertEqual(inner_texts(Book("ab", ("bbab", "baaab", "babbaa")), 2), ("aa", "ab", "ba", "bb"))
        self.assertEqual(inner_words(Book("ab", ("bbaabb", "aa", "aba", "babab"))), ("aa", "aba"))
        self.assertEqual(outer_words(Book("ab", ("bbaabb", "aa", "aba", "babab"))), ("babab", "bbaabb"))

    def test_words(self):
        for book in small_books() + FULL:
            inner = tuple(word for word in book.words if plain_inner(book, word))
            self.assertEqual(inner_words(book), inner)
            self.assertEqual(outer_words(book), tuple(word for word in book.words if word not in inner))

    def test_empty_text(self):
        # Some word has to have two letters.
        for book, told in [(EMPTY, False), (Book("ab", ("a", "b")), False), (Book("ab", ("b",)), False),
                           (Book("ab", ("ab",)), True), (Book("ab", ("a", "bb")), True), (Book("m", ("m",)), False),
                           (Book("m", ("mm",)), True)]:
            self.assertIs(is_inner(book, ""), told)
            self.assertEqual(inner_texts(book, 0), ("",) if told else ())

    def test_empty_book(self):
        self.assertEqual((inner_words(EMPTY), outer_words(EMPTY), extensions(EMPTY, "")), ((), (), ((), ())))
        self.assertIs(is_inner(EMPTY, "a"), False)
        for size in [0, 1, 400]:
            self.assertEqual(inner_texts(EMPTY, size), ())

    def test_longer_than_all_words(self):
        self.assertIs(is_inner(NINE, "a" * 4000), False)
        self.assertIs(is_inner(PAIRS, "ab"), False)
        self.assertEqual(extensions(NINE, "ab" * 2000), ((), ()))
        self.assertEqual([inner_texts(NINE, size) for size in (3, 4, 5, 400)], [()] * 4)
        # A text over the end of one word and the beginning of the next one is none.
        self.assertIs(is_inner(Book("ab", ("abab", "bbba")), "abb"), False)

    def test_large(self):
        book = Book("ab", ("b" + "a" * 398 + "b", "a" + "b" * 398 + "a"))
        self.assertEqual(inner_texts(book, 398), ("a" * 398, "b" * 398))
        self.assertEqual((inner_texts(book, 399), inner_texts(book, 400)), ((), ()))
        self.assertEqual(is_inner(book, "a" * 398), True)
        self.assertIs(is_inner(book, "a" * 399), False)
        self.assertEqual(inner_words(THIN), ("a",))
        self.assertEqual(len(outer_words(THIN)), 399)
        self.assertEqual((inner_words(ALIKE), inner_words(SPREAD)), ((), ()))
        self.assertEqual(len(inner_texts(SPREAD, 200)), len({word[at:at + 200] for word in SPREAD.words
                                                             for at in range(1, 200)}))
        self.assertEqual(inner_texts(Book("m", ("m" * 400,)), 398), ("m" * 398,))

    def test_extensions(self):
        for book in small_books() + SMALL_FULL[::5]:
            for text in all_texts(book.letters, 4):
                ahead = {word[:end] for word in book.words for end in range(1, len(word) + 1) if word[end:] == text}
                behind = {word[at:] for word in book.words for at in range(len(word)) if word[:at] == text}
                self.assertEqual(extensions(book, text), (set_in_order(ahead), set_in_order(behind)))

    def test_extensions_are_not_empty(self):
        self.assertEqual(extensions(NINE, "ab"), ((), ()))
        self.assertEqual(extensions(FEW, ""), (("ab", "ba"), ("ab", "ba")))
        self.assertEqual(extensions(Book("ab", ("ab", "baba")), "b"), (("a",), ("aba",)))
        self.assertEqual(extensions(SPREAD, SPREAD[0]), ((), ()))
        self.assertEqual(extensions(SPREAD, SPREAD[0][1:]), ((SPREAD[0][0],), ()))


class Errors(unittest.TestCase, Refusing):
    def test_wrong_arguments(self):
        for call in [degree, inner_words, outer_words]:
            self.check_wrong(call, (NINE, NO_BOOKS, InvalidBook))
        for call in [is_inner, extensions]:
            self.check_wrong(call, (NINE, NO_BOOKS, InvalidBook), ("ab", no_texts("ab"), InvalidText))
            self.check_wrong(call, (Book("m", ("mm",)), NO_BOOKS, InvalidBook), ("m", no_texts("m"), InvalidText))
        self.check_wrong(inner_texts, (NINE, NO_BOOKS, InvalidBook), (2, no_numbers(0, 400), InvalidNumber))

    def test_any_book(self):
        # All functions but the degree take books that are not full.
        self.assertIs(is_inner(FEW, ""), True)
        self.assertEqual((inner_texts(FEW, 0), inner_words(FEW), outer_words(FEW)), (("",), (), ("ab", "ba")))
        self.assertEqual(extensions(FEW, "a"), (("b",), ("b",)))

    def test_nothing_changes(self):
        book = Book("ab", NINE.words)
        for _ in range(2):
            self.assertEqual((degree(book), inner_words(book), extensions(book, "ba")),
                             (3, ("ab",), (("b", "aa", "ba"), ("a", "ba", "bb"))))
        self.assertEqual(book, NINE)


if __name__ == "__main__":
    unittest.main()
