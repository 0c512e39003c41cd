"""[12.1], [12.2] and stage 12: books put together."""

import unittest
from fractions import Fraction
from itertools import combinations, product

from tests.fullbooks import FULL, SMALL_FULL, is_full_plain, plain_degree, set_in_order
from tests.refused import Refusing, no_numbers
from tests.samples import (ALIKE, FEW, NINE, NO_BOOKS, NO_TUPLES, PAIRS, PLAN, SPREAD, STRANGE, THIN, all_books, nested,
                           row_brute)
from twowaycuts.book.books import Book
from twowaycuts.book.chances import mean, share
from twowaycuts.errors import InvalidBook, InvalidNumber, InvalidOperation, TooMany
from twowaycuts.full.inner import degree
from twowaycuts.full.weaves import is_weave, joined, mean_words, power, weave_of

LETTERS = Book("ab", ("a", "b"))
EMPTY = Book("ab", ())
WEAVE = (("ab",), ("ba", "ba"))
# 400 rows of one word each.
MANY = tuple((word,) for word in sorted(SPREAD.words))
NO_WEAVES = STRANGE + [
    ["ab"], [("ab",)], ("ab",), (("ab",), ()), ((),), ((), ("ab",)), (("ab",), ("ab",)), (("ba",), ("ab",)),
    (("ab",), ("ab", "ba")), (("ab", "ba"), ("ba",)), (("ab", "ab"), ("ab", "ab", "ba")), (("aa",),), (("abba",),),
    (("ab", ""),), (("ab", "c"),), (("ab", None),), ((None,),), (("ab", ("ba",)),), (["ab"],), (("ab",), ["ba"]),
    (("ab",), "ba"), (("ab",), None), ((True,),), ((FEW,),), (FEW, PLAN), (("ab",) * 201,), (("ba",) * 401,),
    (("ab",), ("ba", "ba"), ("ba", "ba")), (("ba", "ba"), ("ab",)), nested("ab", 9), "", "ab", {("ab",): 1},
    (("ab\n",),), ((("ab",),),), (("ab",), ("ba", "ab", "ab")), (("ab", "ab"), ("ba", "ab", "ab")),
]


def rows_up_to(book, longest):
    """All rows of at most so many words, in Python's order."""
    return sorted(row for many in range(1, longest + 1) for row in product(book.words, repeat=many))


def is_weave_plain(rows):
    """By [12.1], for a tuple of rows of words."""
    for at, one in enumerate(rows):
        for other in rows[at + 1:]:
            short, long = sorted([one, other], key=len)
            if not one < other or long[:len(short)] == short or long[len(long) - len(short):] == short:
                return False
    return True


def plain_mean(book, rows, chances):
    total = sum(chances)
    found = Fraction(0)
    for row in rows:
        part = Fraction(len(row))
        for letter in "".join(row):
            part *= Fraction(chances[book.letters.index(letter)], total)
        found += part
    return found.numerator, found.denominator


def plain_weave(book, base):
    rows = [row_brute(base, word) for word in book.words]
    return None if None in rows else tuple(sorted(rows))


class Examples(unittest.TestCase):
    def test_first(self):
        told = [joined(FEW, (("ab",), ("ba", "ba"))).words, is_weave(FEW, (("ab",), ("ab", "ba"))),
                weave_of(NINE, PAIRS), weave_of(Book("ab", ("abab", "ba")), FEW),
                power(PAIRS, 2) == Book.uniform("ab", 4)]
        self.assertEqual(told, [("ab", "baba"), False, None, (("ab", "ab"), ("ba",)), True])

    def test_second(self):
        told = [joined(LETTERS, weave_of(NINE, LETTERS)) == NINE,
                mean_words(LETTERS, weave_of(NINE, LETTERS), (3, 4)),
                mean_words(FEW, (("ab",), ("ba", "ba")), (1, 1))]
        self.assertEqual(told, [True, (3, 1), (3, 8)])


class Judging(unittest.TestCase):
    def test_all_small_values(self):
        for book, longest, most in [(FEW, 3, 3), (LETTERS, 2, 4), (Book("ab", ("a",)), 4, 2), (PAIRS, 2, 2),
                                    (Book("abc", ("a", "b", "cc")), 2, 2)]:
            rows = rows_up_to(book, longest)
            for many in range(most + 1):
                for value in product(rows, repeat=many) if many < 3 else combinations(rows, many):
                    self.assertIs(is_weave(book, value), is_weave_plain(value), value)

    def test_words_that_begin_others_are_no_rows(self):
        # Rows are compared by their words; what counts are words, not letters.
        self.assertIs(is_weave(LETTERS, (("a",), ("b", "a", "b"))), True)
        self.assertIs(is_weave(LETTERS, (("a",), ("b", "b", "a"))), False)
        self.assertIs(is_weave(LETTERS, (("a", "b"), ("b", "b", "a"))), True)
        self.assertIs(is_weave(LETTERS, (("a", "b"), ("b", "a", "b"))), False)

    def test_python_order(self):
        # In Python's order ("b",) stands behind ("a", "b"), and words are not ordered by their length.
        book = Book("ab", ("b", "aa", "aba"))
        self.assertIs(is_weave(book, (("aa",), ("aba",), ("b",))), True)
        self.assertIs(is_weave(book, (("b",), ("aa",), ("aba",))), False)
        self.assertIs(is_weave(LETTERS, (("a", "a"), ("b",))), True)
        self.assertIs(is_weave(LETTERS, (("b",), ("a", "a"))), False)

    def test_no_rows(self):
        for book in [FEW, LETTERS, EMPTY, SPREAD]:
            self.assertIs(is_weave(book, ()), True)
            self.assertIs(is_weave(book, ((),)), False)

    def test_no_values(self):
        for value in NO_WEAVES:
            self.assertIs(is_weave(FEW, value), False, value)
            if value != ():
                self.assertIs(is_weave(EMPTY, value), False, value)
            self.assertIs(is_weave(SPREAD, value), False, value)

    def test_limits(self):
        self.assertIs(is_weave(SPREAD, MANY), True)
        self.assertIs(is_weave(SPREAD, MANY[:399]), True)
        self.assertIs(is_weave(SPREAD, MANY + MANY[:1]), False)
        # Of 512 rows, all of which are fine, 401 are too many.
        rows = tuple(product("ab", repeat=9))
        self.assertIs(is_weave(LETTERS, rows[:400]), True)
        self.assertIs(is_weave(LETTERS, rows[:401]), False)
        self.assertIs(is_weave(LETTERS, rows), False)
        # Texts of 400 and of 401 letters.
        self.assertIs(is_weave(LETTERS, (("a",) * 400,)), True)
        self.assertIs(is_weave(LETTERS, (("a",) * 401,)), False)
        self.assertIs(is_weave(FEW, (("ab",) * 200, ("ba",) * 3)), True)
        self.assertIs(is_weave(FEW, (("ab",) * 201, ("ba",) * 3)), False)
        book = Book("ab", ("aab", "bb"))
        self.assertIs(is_weave(book, (("aab",) * 132 + ("bb", "bb"),)), True)
        self.assertIs(is_weave(book, (("aab",) * 133 + ("bb",),)), False)


class Joining(unittest.TestCase):
    def test_small(self):
        for book, longest, most in [(FEW, 3, 3), (LETTERS, 3, 2), (PAIRS, 2, 2)]:
            rows = rows_up_to(book, longest)
            for many in range(most + 1):
                for value in combinations(rows, many):
                    if is_weave_plain(value):
                        texts = ["".join(row) for row in value]
                        self.assertEqual(joined(book, value), Book("ab", tuple(texts)))
                        self.assertEqual(weave_of(joined(book, value), book), value)
                        for chances in [(1, 1), (2, 3), (0, 5)]:
                            self.assertEqual(mean_words(book, value, chances), plain_mean(book, value, chances))

    def test_no_rows(self):
        self.assertEqual(joined(FEW, ()), EMPTY)
        self.assertEqual(mean_words(FEW, (), (1, 2)), (0, 1))
        self.assertEqual(weave_of(EMPTY, FEW), ())
        self.assertEqual((joined(EMPTY, ()), weave_of(EMPTY, EMPTY), weave_of(FEW, EMPTY)), (EMPTY, (), None))

    def test_full_books(self):
        # The joined book of a full one is full exactly if the products of the shares add up to 1; then the mean number
        # of words is the same whatever the chances are, and the degree is the product.
        for outer in SMALL_FULL[:30]:
            self.check_full(LETTERS, weave_of(outer, LETTERS))
        for base in [PAIRS, NINE, Book("m", ("mm",)), Book.uniform("abc", 2)]:
            self.check_full(base, tuple((word,) for word in sorted(base.words)))
            self.check_full(base, tuple(sorted(product(base.words, repeat=2))))
        # All rows of three words, in which a row of two words is exchanged, as if the words were letters.
        one, two, three, four = PAIRS.words
        rows = set(product(PAIRS.words, repeat=3)) - {row for row in product(PAIRS.words, repeat=3)
                                                      if (one, two) in (row[:2], row[1:])}
        rows |= {(one, two)} | {(x, one, two, y) for x in PAIRS.words for y in PAIRS.words}
        self.check_full(PAIRS, tuple(sorted(rows)))
        self.assertEqual(degree(joined(PAIRS, tuple(sorted(rows)))), 6)
        self.assertEqual(share(joined(PAIRS, tuple(sorted(rows))[1:])), (63, 64))

    def check_full(self, base, rows):
        told = joined(base, rows)
        self.assertTrue(is_full_plain(told.letters, told.words))
        chances = [(1, 1, 1), (2, 7, 3), (1, 0, 0), (5, 3, 1), (10 ** 30, 1, 9)]
        means = {mean_words(base, rows, some[:len(base.letters)]) for some in chances}
        self.assertEqual(len(means), 1)
        numerator, denominator = means.pop()
        self.assertEqual(degree(told) * denominator, degree(base) * numerator)

    def test_over_letters(self):
        for book in FULL:
            letters = Book.uniform(book.letters, 1)
            weave = weave_of(book, letters)
            self.assertEqual(weave, tuple(sorted(tuple(word) for word in book.words)))
            self.assertIs(is_weave(letters, weave), True)
            self.assertEqual(joined(letters, weave), book)
            for chances in [(1, 2, 5), (3, 0, 0)]:
                self.assertEqual(mean_words(letters, weave, chances[:len(book.letters)]), (plain_degree(book), 1))

    def test_others(self):
        # No full books: the mean depends on the chances.
        for rows in [(("ab",), ("ba", "ba")), (("ab", "ba"),), (("ab", "ab"), ("ba", "ab", "ba"))]:
            for chances in [(1, 1), (1, 3), (0, 1), (7, 0), (10 ** 199, 10 ** 199 - 1)]:
                self.assertEqual(mean_words(FEW, rows, chances), plain_mean(FEW, rows, chances))
        self.assertEqual(mean_words(FEW, (("ab",), ("ba", "ba")), (1, 2)), (26, 81))

    def test_the_weave_of_all_small_books(self):
        for base in list(all_books("ab", 2, 3)):
            for book in [FEW, PAIRS, NINE, Book("ab", ("abab", "ba")), Book("ab", ("aa", "bb")), Book("ab", ("abba",)),
                         FEW * PAIRS, FEW * FEW * FEW, EMPTY]:
                weave = plain_weave(book, base)
                self.assertEqual(weave_of(book, base), weave)
                if weave is not None:
                    self.assertIs(is_weave(base, weave), True)
                    self.assertEqual(joined(base, weave), book)

    def test_itself(self):
        for book in FULL[::5] + [ALIKE, SPREAD, THIN]:
            weave = tuple(sorted((word,) for word in book.words))
            self.assertEqual(weave_of(book, book), weave)
            self.assertEqual(joined(book, weave), book)

    def test_large(self):
        weave = weave_of(SPREAD, LETTERS)
        self.assertEqual(weave, tuple(sorted(tuple(word) for word in SPREAD.words)))
        self.assertEqual(joined(LETTERS, weave), SPREAD)
        self.assertEqual(mean_words(LETTERS, weave, (1, 1)), plain_mean(LETTERS, weave, (1, 1)))
        chances = (10 ** 199 + 1, 10 ** 199 + 9)
        self.assertEqual(mean_words(LETTERS, weave, chances), mean(SPREAD, chances))
        self.assertEqual(mean_words(SPREAD, MANY, (1, 1)), share(SPREAD))
        self.assertIsNone(weave_of(ALIKE, SPREAD))


class Powers(unittest.TestCase, Refusing):
    def test_small(self):
        for book in [FEW, LETTERS, PAIRS, NINE, Book("m", ("mm",)), Book("abc", ("a", "cb")), EMPTY,
                     Book("ab", ("aba",))]:
            for many in range(1, 5):
                words = ["".join(row) for row in product(book.words, repeat=many)]
                if len(words) > 400:
                    self.check_error(power, (book, many), TooMany, {"limit": 400})
                else:
                    self.assertEqual(power(book, many), Book(book.letters, tuple(words)))

    def test_limits(self):
        self.assertEqual(power(EMPTY, 400), EMPTY)
        self.assertEqual(power(EMPTY, 1), EMPTY)
        self.assertEqual(power(Book("m", ("m",)), 400), Book("m", ("m" * 400,)))
        self.assertEqual(power(Book("ab", ("ab",)), 200), Book("ab", ("ab" * 200,)))
        self.check_error(power, (Book("ab", ("ab",)), 201), TooMany, {"limit": 400})
        self.check_error(power, (Book("ab", ("ab",)), 400), TooMany, {"limit": 400})
        self.assertEqual(power(Book("ab", ("a" * 400,)), 1), Book("ab", ("a" * 400,)))
        self.check_error(power, (Book("ab", ("a" * 400,)), 2), TooMany, {"limit": 400})
        self.assertEqual(power(LETTERS, 8), Book.uniform("ab", 8))
        self.check_error(power, (LETTERS, 9), TooMany, {"limit": 400})
        self.assertEqual(power(Book.uniform("abc", 1), 5), Book.uniform("abc", 5))
        self.check_error(power, (Book.uniform("abc", 1), 6), TooMany, {"limit": 400})
        self.assertEqual(len(power(Book("ab", Book.uniform("ab", 5).words[:20]), 2)), 400)
        self.check_error(power, (Book("ab", Book.uniform("ab", 5).words[:21]), 2), TooMany, {"limit": 400})
        self.assertEqual(power(SPREAD, 1), SPREAD)
        self.check_error(power, (SPREAD, 2), TooMany, {"limit": 400})

    def test_full(self):
        for book in SMALL_FULL[::9]:
            if len(book) <= 20:
                self.assertEqual(degree(power(book, 2)), 2 * degree(book))


class Errors(unittest.TestCase, Refusing):
    def test_wrong_arguments(self):
        no_weaves = [value for value in NO_WEAVES if value != ()]
        no_chances = NO_TUPLES + [(), (1,), (0, 0), (1, 2, 3), (1, -1), (1, True), (1, None), (1, "1"), [1, 2],
                                  (10 ** 200, 1), (1, (1,)), (-10 ** 299, 1)]
        self.check_wrong(is_weave, (FEW, NO_BOOKS, InvalidBook), (WEAVE, [], None))
        for value in [None, 5, WEAVE]:
            self.check_wrong(lambda book, held=value: is_weave(book, held), (FEW, NO_BOOKS, InvalidBook))
        self.check_wrong(joined, (FEW, NO_BOOKS, InvalidBook), (WEAVE, no_weaves, InvalidOperation))
        self.check_wrong(weave_of, (NINE, NO_BOOKS, InvalidBook), (PAIRS, NO_BOOKS, InvalidBook))
        self.check_wrong(mean_words, (FEW, NO_BOOKS, InvalidBook), (WEAVE, no_weaves, InvalidOperation),
                         ((1, 1), no_chances, InvalidOperation))
        self.check_wrong(power, (FEW, NO_BOOKS, InvalidBook), (2, no_numbers(1, 400), InvalidNumber))

    def test_other_letters(self):
        for one, two in [(FEW, Book("abc", ("ab", "ba"))), (Book("a", ()), EMPTY), (NINE, Book("ac", ("a", "c"))),
                         (Book("a", ("a",)), Book("b", ("b",)))]:
            self.check_error(weave_of, (one, two), InvalidOperation)
            self.check_error(weave_of, (two, one), InvalidOperation)

    def test_wrong_weaves_of_other_books(self):
        # Rows of a book are no rows of another one.
        self.check_error(joined, (PAIRS, (("aba",),)), InvalidOperation)
        self.check_error(mean_words, (FEW, (("aa",),), (1, 1)), InvalidOperation)
        self.check_error(joined, (Book("abc", ("c",)), (("ab",),)), InvalidOperation)

    def test_nothing_changes(self):
        rows = (("ab",), ("ba", "ba"))
        for _ in range(2):
            self.assertEqual((joined(FEW, rows).words, mean_words(FEW, rows, (1, 1)), power(FEW, 1)),
                             (("ab", "baba"), (3, 8), FEW))
        self.assertEqual(rows, WEAVE)
        self.assertEqual(set_in_order(FEW.words), ("ab", "ba"))


if __name__ == "__main__":
    unittest.main()
