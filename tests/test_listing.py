"""[13.1] and stage 13: all full books of a degree."""

import unittest
from itertools import combinations
from unittest import mock

from tests.fullbooks import FULL, SMALL_FULL, all_changed, all_full, plain_degree, plain_free, plain_inner
from tests.refused import Refusing, no_numbers
from tests.samples import ALIKE, FEW, NINE, NO_BOOKS, NO_LETTERS, PAIRS, SPREAD, THIN
from twowaycuts.book.books import Book
from twowaycuts.book.full import first_free
from twowaycuts.errors import InvalidBook, InvalidLetters, InvalidNumber, InvalidOperation, NotFull, TooMany
from twowaycuts.full.inner import inner_words
from twowaycuts.full.listing import MAX_OUTER, arrows_of, count_full, full_books, thickened
from twowaycuts.plan.ladders import thicker, thinner
from twowaycuts.plan.outcomes import book_of, book_or_ring, outcome
from twowaycuts.plan.plans import Plan

NO_DEGREES = no_numbers(1, 400)


def all_thickened(book):
    return list(thickened(book))


def all_full_books(letters, degree):
    return list(full_books(letters, degree))


def outer_plain(book):
    return [word for word in book.words if not plain_inner(book, word)]


class Examples(unittest.TestCase, Refusing):
    def test_first(self):
        told = [count_full("ab", 1), count_full("ab", 2), count_full("ab", 3), count_full("abc", 3), count_full("a", 7)]
        self.assertEqual(told, [1, 1, 3, 25, 1])

    def test_second(self):
        told = [[len(one) for one in full_books("ab", 3)], list(full_books("ab", 3))[1] == NINE,
                [len(one) for one in thickened(PAIRS)], arrows_of(NINE)]
        self.assertEqual(told, [[8, 9, 9], True, [8, 9, 9], ("ab",)])

    def test_too_many(self):
        self.check_error(count_full, ("ab", 5), TooMany, {"limit": 9})


class Thickened(unittest.TestCase, Refusing):
    def test_constant(self):
        self.assertEqual(MAX_OUTER, 9)

    def test_told_order(self):
        for book in SMALL_FULL:
            outer = outer_plain(book)
            if len(outer) > 9:
                continue
            wanted = []
            for many in range(len(outer) + 1):
                for taken in sorted(combinations(outer, many)):
                    plan = Plan(book.letters, inner_words(book) + taken, plain_degree(book) + 1)
                    if outcome(plan) == "book":
                        wanted.append(book_of(plan))
            self.assertEqual(all_thickened(book), wanted)

    def test_order_of_words_with_other_lengths(self):
        # The outer words of NINE have three and four letters; in Python's order "aaba" comes ahead of "baa".
        taken = [[word for word in inner_words(book) if word != "ab"] for book in thickened(NINE)]
        self.assertEqual(taken[:6], [[], ["aaba"], ["aabb"], ["baa"], ["babb"], ["bba"]])
        self.assertEqual([len(words) for words in taken], sorted(len(words) for words in taken))
        self.assertEqual([words for words in taken if len(words) == 2],
                         sorted(words for words in taken if len(words) == 2))
        self.assertIn(["bba", "aaba"], taken)

    def test_books(self):
        for book in SMALL_FULL:
            if len(outer_plain(book)) <= 9:
                found = all_thickened(book)
                self.assertEqual(found[0], thicker(book))
                self.assertEqual(len({one.words for one in found}), len(found))
                for one in found:
                    self.assertEqual((plain_degree(one), thinner(one)), (plain_degree(book) + 1, book))
        for size in [3, 4]:
            for book in all_changed(Book.uniform("ab", size)):
                self.assertIn(book, all_thickened(thinner(book)))

    def test_nine_outer_words_are_not_too_many(self):
        self.assertEqual(len(all_thickened(Book.uniform("abc", 2))), 25)
        self.assertEqual(len(all_thickened(Book.uniform("ab", 3))) + 2 * len(all_thickened(NINE)), 73)

    def test_more_are(self):
        for book in FULL:
            if len(outer_plain(book)) > 9:
                self.check_error(all_thickened, (book,), TooMany, {"limit": 9})

    def test_few_plans_are_tried(self):
        # There are 512, and 256, sets of outer words. What has a ring has one with more words, too, and is not tried.
        for book, most in ((Book.uniform("abc", 2), 60), (Book.uniform("ab", 3), 60), (NINE, 60)):
            with mock.patch("twowaycuts.full.listing.book_or_ring", side_effect=book_or_ring) as tried:
                found = all_thickened(book)
            self.assertLessEqual(len(found), tried.call_count)
            self.assertLessEqual(tried.call_count, most)

    def test_one_letter(self):
        for size in [1, 2, 398, 399]:
            self.assertEqual(all_thickened(Book("m", ("m" * size,))), [Book("m", ("m" * (size + 1),))])
        self.check_error(all_thickened, (Book("m", ("m" * 400,)),), TooMany, {"limit": 400})

    def test_errors_come_with_the_first_element(self):
        for book, wanted in [(5, InvalidBook), (FEW, NotFull), (Book.uniform("ab", 4), TooMany),
                             (Book("m", ("m" * 400,)), TooMany)]:
            rows = thickened(book)
            with self.assertRaises(wanted):
                next(rows)

    def test_one_after_the_other(self):
        rows = thickened(PAIRS)
        self.assertEqual(next(rows), Book.uniform("ab", 3))
        self.assertEqual(next(rows), NINE)
        self.assertEqual(len(list(rows)), 1)


class All(unittest.TestCase, Refusing):
    def test_independent(self):
        # All full books with words of at most four letters are among those of the degrees 1 to 4.
        found = [book for degree in (1, 2, 3, 4) for book in full_books("ab", degree)]
        for book in all_full("ab", 4):
            self.assertIn(book, found)
        self.assertEqual([book for book in found if book.longest <= 4 and book not in all_full("ab", 4)], [])
        for book in all_full("abc", 3):
            self.assertIn(book, all_full_books("abc", plain_degree(book)))

    def test_each_once(self):
        for letters, degree, many in [("ab", 1, 1), ("ab", 2, 1), ("ab", 3, 3), ("ab", 4, 73), ("bz", 4, 73),
                                      ("abc", 1, 1), ("abc", 2, 1), ("abc", 3, 25), ("xyz", 3, 25), ("m", 1, 1),
                                      ("m", 2, 1), ("m", 40, 1)]:
            found = all_full_books(letters, degree)
            self.assertEqual((len(found), count_full(letters, degree)), (many, many))
            self.assertEqual({book.words for book in found},
                             {book.words for book in all_changed(Book.uniform(letters, degree))})
            self.assertEqual(len({book.words for book in found}), many)

    def test_order(self):
        for letters, degree in [("ab", 2), ("ab", 3), ("ab", 4), ("abc", 2), ("abc", 3), ("m", 5)]:
            wanted = [one for book in full_books(letters, degree - 1) for one in thickened(book)]
            self.assertEqual(all_full_books(letters, degree), wanted)
        for letters in ["a", "ab", "abc"]:
            self.assertEqual(all_full_books(letters, 1), [Book.uniform(letters, 1)])
        self.assertEqual([inner_words(book) for book in full_books("ab", 3)], [(), ("ab",), ("ba",)])

    def test_one_letter(self):
        for degree in [1, 2, 399, 400]:
            self.assertEqual(count_full("m", degree), 1)
        self.assertEqual(all_full_books("m", 400), [Book("m", ("m" * 400,))])

    def test_too_many(self):
        for letters, degree in [("ab", 5), ("ab", 6), ("ab", 9), ("ab", 400), ("abc", 4), ("abc", 5), ("abc", 400)]:
            self.check_error(count_full, (letters, degree), TooMany, {"limit": 9})
            self.check_error(all_full_books, (letters, degree), TooMany, {"limit": 9})

    def test_errors_come_with_the_first_element(self):
        for letters, degree, wanted in [("ba", 0, InvalidLetters), ("ab", 0, InvalidNumber), ("ab", 401, InvalidNumber),
                                        ("ab", 5, TooMany), ("abc", 4, TooMany), ("ab", True, InvalidNumber)]:
            rows = full_books(letters, degree)
            with self.assertRaises(wanted):
                next(rows)


class Arrows(unittest.TestCase, Refusing):
    def test_over_two_letters(self):
        self.assertEqual([arrows_of(book) for book in full_books("ab", 3)], [(), ("ab",), ("ba",)])

    def test_over_three_letters(self):
        pairs = [x + y for x in "abc" for y in "abc" if x != y]
        wanted = set()
        for many in range(len(pairs) + 1):
            for arrows in combinations(pairs, many):
                left = list(arrows)
                # Arrows that lead to a letter without an arrow are taken out, as long as there are some.
                while [arrow for arrow in left if not any(other[0] == arrow[1] for other in left)]:
                    left = [arrow for arrow in left if any(other[0] == arrow[1] for other in left)]
                if not left:
                    wanted.add(arrows)
        self.assertEqual(len(wanted), 25)
        self.assertEqual({arrows_of(book) for book in full_books("abc", 3)}, wanted)
        for arrows in combinations(pairs, 2):
            plan = Plan("abc", arrows, 3)
            if arrows in wanted:
                self.assertEqual(arrows_of(book_of(plan)), arrows)
            else:
                self.assertEqual(outcome(plan), "ring")

    def test_other_degrees(self):
        self.assertEqual(arrows_of(Book("m", ("mmm",))), ())
        for book in FULL:
            if plain_degree(book) != 3:
                self.check_error(arrows_of, (book,), InvalidOperation)


class Errors(unittest.TestCase, Refusing):
    def test_wrong_arguments(self):
        for call in [all_thickened, arrows_of]:
            self.check_wrong(call, (PAIRS if call is all_thickened else NINE, NO_BOOKS, InvalidBook))
        for call in [count_full, all_full_books]:
            self.check_wrong(call, ("ab", NO_LETTERS, InvalidLetters), (2, NO_DEGREES, InvalidNumber))

    def test_not_full(self):
        for book in [FEW, NINE.without_word("ab"), Book("ab", ()), Book("m", ()),
                     Book.uniform("ab", 5).without_word("ababa")]:
            for call in [all_thickened, arrows_of]:
                self.check_error(call, (book,), NotFull, {"text": plain_free(book)})
        for book in [ALIKE, SPREAD, THIN]:
            for call in [all_thickened, arrows_of]:
                self.check_error(call, (book,), NotFull, {"text": first_free(book)})

    def test_too_many_comes_behind(self):
        self.check_error(count_full, ("ba", 5), InvalidLetters)
        self.check_error(count_full, ("ab", 500), InvalidNumber, {"value": 500})


if __name__ == "__main__":
    unittest.main()
