"""[14.1], [14.2] and stage 14: rows of lengths."""

import random
import unittest
from fractions import Fraction
from itertools import combinations, product

from tests.fullbooks import FULL, SMALL_FULL, all_full, plain_degree
from tests.refused import Refusing, no_numbers
from tests.samples import NO_LETTERS, NO_TUPLES, all_texts, comparable, nested
from twowaycuts.book.books import Book
from twowaycuts.book.chances import numbers
from twowaycuts.book.full import is_full
from twowaycuts.errors import InvalidLetters, InvalidNumber, InvalidOperation, TooMany
from twowaycuts.full.listing import full_books
from twowaycuts.lengths.rows import MAX_THREE, MAX_TWO, can_have, full_numbers, half_book, have, may_be_full

NO_NUMBERS = NO_TUPLES + [
    (0,), (1, 0), (0, 0), (0, 2, 0), (-1,), (1, -1, 1), (True,), (0, True), (False, 1), (None,), ("1",), (1, "1"),
    ((1,),), (1, (1,)), ([1],), [0, 2], (401,), (0, 401), (200, 0, 201), (1,) * 401, (0,) * 400 + (1,), (10 ** 200,),
    (-10 ** 299,), (10 ** 199,), (0, 10 ** 299), nested(1, 10), (Book("ab", ("ab",)),), Book("ab", ("ab",)), "012",
    (0, None, 2),
]


def share_of(letters, row):
    return sum((Fraction(many, len(letters) ** size) for size, many in enumerate(row, 1)), Fraction(0))


def plain_have(letters, row):
    """Whether some set of words has the numbers, by trying all such sets, length by length."""
    sets = [()]
    for size, many in enumerate(row, 1):
        texts = ["".join(signs) for signs in product(letters, repeat=size)]
        grown = []
        for words in sets:
            free = [text for text in texts if not any(comparable(text, word) for word in words)]
            grown += [words + more for more in combinations(free, many)]
        sets = grown
    return bool(sets)


def small_rows(longest, most):
    """All numbers up to a length, no one of them more than told."""
    found = [()]
    for size in range(1, longest + 1):
        found += [row for row in product(*[range(most[at] + 1) for at in range(size)]) if row[-1] != 0]
    return found


def plain_half(letters, row):
    """The words that come first, by trying all texts."""
    words = []
    for size, many in enumerate(row, 1):
        for _ in range(many):
            words.append(next(text for text in ("".join(signs) for signs in product(letters, repeat=size))
                              if not any(comparable(text, word) for word in words)))
    return tuple(words)


def random_rows(seed, many, longest, letters):
    """Numbers by chance, with shares of about one half and less."""
    chance = random.Random(seed)
    found = []
    for _ in range(many):
        row = [0] * chance.randint(1, longest)
        for _ in range(chance.randint(1, min(400, 3 * longest))):
            at = chance.randrange(len(row))
            row[at] += 1
            if 2 * share_of(letters, row) > 1:
                row[at] -= 1
        while row and row[-1] == 0:
            row.pop()
        found.append(tuple(row))
    return found


class Examples(unittest.TestCase, Refusing):
    def test_first(self):
        told = [can_have("ab", (0, 2)), can_have("ab", (1, 2)), can_have("ab", (1, 1, 1)), can_have("ab", (1, 1, 2)),
                numbers(have("ab", (0, 1, 4, 4))), half_book("ab", (0, 1, 2)).words]
        self.assertEqual(told, [True, False, True, False, (0, 1, 4, 4), ("aa", "aba", "abb")])

    def test_second(self):
        told = [may_be_full("ab", (0, 1, 4, 4)), may_be_full("ab", (0, 0, 4, 8)), may_be_full("ab", (1, 0, 3, 2)),
                full_numbers("ab", 3), can_have("a", (0, 1)), can_have("a", (1, 1))]
        self.assertEqual(told, [True, False, False, ((0, 0, 8), (0, 1, 4, 4)), True, False])

    def test_too_many(self):
        self.check_error(can_have, ("ab", (0, 0, 0, 0, 30)), TooMany, {"limit": 4})

    def test_constants(self):
        self.assertEqual((MAX_TWO, MAX_THREE), (4, 3))


class Having(unittest.TestCase, Refusing):
    def check_have(self, letters, row, wanted):
        told = have(letters, row)
        self.assertIs(can_have(letters, row), wanted, (letters, row))
        if wanted:
            self.assertEqual((told.letters, numbers(told)), (letters, row))
        else:
            self.assertIsNone(told)

    def test_all_sets_of_words(self):
        for row in small_rows(3, (3, 5, 9)):
            self.check_have("ab", row, plain_have("ab", row))
        for row in small_rows(2, (4, 10)):
            self.check_have("abc", row, plain_have("abc", row))
        for row in small_rows(4, (1, 2, 1, 2)):
            self.check_have("m", row, plain_have("m", row))

    def test_four_letters(self):
        chance = random.Random(5)
        for _ in range(120):
            row = (chance.randint(0, 1), chance.randint(0, 2), chance.randint(0, 4), chance.randint(1, 8))
            self.check_have("ab", row, plain_have("ab", row))
        for row in [(0, 0, 4, 8), (0, 0, 0, 16), (0, 0, 0, 17), (0, 2, 2, 4), (0, 1, 4, 4), (0, 1, 3, 6), (0, 1, 5, 2)]:
            self.check_have("bz", row, plain_have("bz", row))

    def test_three_letters_each(self):
        chance = random.Random(6)
        rows = [(0, 0, 27), (0, 0, 28), (0, 1, 24), (0, 9, 1), (1, 4, 5), (1, 2, 11), (1, 2, 8), (2, 1, 1), (0, 3, 17)]
        rows += [(chance.randint(0, 1), chance.randint(0, 3), chance.randint(1, 27)) for _ in range(30)]
        for row in rows:
            # The longest words do not stand in the way of one another, so that all that are free can be taken.
            free = [sum(1 for text in all_texts("abc", 3)[13:] if not any(comparable(text, word) for word in words))
                    for words in self.shorter(row)]
            self.check_have("abc", row, max(free, default=0) >= row[2])

    def shorter(self, row):
        for ones in combinations("abc", row[0]):
            twos = [text for text in all_texts("abc", 2)[4:] if not any(comparable(text, one) for one in ones)]
            for some in combinations(twos, row[1]):
                yield ones + some

    def test_full_books(self):
        # All full books with words of four letters and less have numbers that can be had.
        for book in all_full("ab", 4):
            self.check_have("ab", numbers(book), True)
        for book in all_full("abc", 3):
            self.check_have("abc", numbers(book), True)

    def test_no_words(self):
        for letters in ["a", "ab", "xyz"]:
            self.check_have(letters, (), True)
            self.assertEqual(have(letters, ()), Book(letters, ()))
            self.assertEqual(half_book(letters, ()), Book(letters, ()))

    def test_one_letter(self):
        for size in [1, 2, 5, 399, 400]:
            row = (0,) * (size - 1) + (1,)
            self.check_have("m", row, True)
            self.assertEqual(have("m", row), Book("m", ("m" * size,)))
            self.check_have("m", row[:-1] + (2,), False)
            self.check_have("m", row[:-1] + (400,), False)
        self.check_have("m", (1,) * 400, False)
        self.check_have("m", (1, 0, 0, 1), False)

    def test_half(self):
        # At most one half: there is such a book, however long the words are.
        for letters, rows in [("ab", [(1,), (0, 2), (0, 0, 4), (0, 1, 2), (0, 1, 1, 2), (0,) * 9 + (400,),
                                      (0,) * 399 + (400,), (0,) + (1,) * 399, (0, 1) + (0,) * 397 + (399,),
                                      (0,) * 8 + (256,), (0,) * 8 + (255,) + (2,), (0,) * 8 + (255, 1) + (2,)]),
                              ("abc", [(1,), (0, 4), (1, 1), (1, 1, 1), (0, 0, 13), (1, 1, 1, 1, 1, 1, 1), (1,) * 400,
                                       (0, 0, 0, 0, 0, 364), (0, 0, 0, 0, 121), (0, 4, 1, 1, 1, 1)])]:
            for row in rows:
                self.assertLessEqual(share_of(letters, row), Fraction(1, 2))
                self.check_have(letters, row, True)

    def test_limits(self):
        # Just above one half, up to 1, words that are too long.
        for row in [(1, 0, 0, 0, 1), (0, 2, 0, 0, 1), (0, 0, 0, 0, 17), (0, 0, 0, 0, 32), (1,) + (0,) * 398 + (1,),
                    (1, 1, 1, 1, 2), (0,) * 8 + (257,), (0,) * 8 + (400,), (1, 1, 1, 1, 1, 1)]:
            self.check_error(can_have, ("ab", row), TooMany, {"limit": 4})
            self.check_error(have, ("ab", row), TooMany, {"limit": 4})
        for row in [(1, 1, 1, 2), (0, 0, 0, 41), (0, 0, 0, 81), (0, 4, 1, 2), (0, 0, 0, 0, 122),
                    (1, 2) + (0,) * 397 + (1,)]:
            self.check_error(can_have, ("abc", row), TooMany, {"limit": 3})
            self.check_error(have, ("abc", row), TooMany, {"limit": 3})
        # Above 1: there is none, however long the words are.
        for letters, row in [("ab", (0, 0, 0, 0, 33)), ("ab", (1, 1, 1, 1, 3)), ("ab", (2,) + (0,) * 398 + (1,)),
                             ("ab", (0, 4, 0, 0, 0, 1)), ("abc", (3, 0, 0, 0, 1)), ("abc", (0, 0, 0, 82)),
                             ("abc", (400,)), ("ab", (400,)), ("ab", (3,)), ("ab", (0,) * 7 + (400,))]:
            self.assertGreater(share_of(letters, row), 1)
            self.check_have(letters, row, False)
        # Words that are short enough.
        for letters, row, wanted in [("ab", (0, 0, 0, 9), True), ("ab", (0, 0, 0, 16), True),
                                     ("ab", (1, 0, 0, 1), True), ("ab", (1, 0, 0, 4), True),
                                     ("ab", (1, 0, 0, 5), False), ("abc", (0, 0, 14), True), ("abc", (0, 0, 27), True)]:
            self.check_have(letters, row, wanted)


class Half(unittest.TestCase, Refusing):
    def test_all_small_numbers(self):
        for row in small_rows(5, (1, 2, 3, 4, 5)):
            if share_of("ab", row) <= Fraction(1, 2):
                self.assertEqual(half_book("ab", row), Book("ab", plain_half("ab", row)))
            else:
                self.check_error(half_book, ("ab", row), InvalidOperation)
        for row in small_rows(3, (1, 3, 6)):
            if share_of("abc", row) <= Fraction(1, 2):
                self.assertEqual(half_book("abc", row), Book("abc", plain_half("abc", row)))
            else:
                self.check_error(half_book, ("abc", row), InvalidOperation)

    def test_random_numbers(self):
        for row in random_rows(1, 40, 9, "ab"):
            self.assertEqual(half_book("ab", row), Book("ab", plain_half("ab", row)))
        for row in random_rows(2, 12, 5, "bxz"):
            self.assertEqual(half_book("bxz", row), Book("bxz", plain_half("bxz", row)))

    def test_each_word_is_the_first_one(self):
        # Longer words: of each two neighbours of one length nothing between can stand.
        for row in random_rows(3, 8, 30, "ab"):
            told = half_book("ab", row)
            self.assertEqual(numbers(told), row)
            for word in told.words:
                shorter = [other for other in told.words if len(other) < len(word)]
                before = [text for text in self.texts_just_ahead(word, 40)
                          if text not in told and not any(comparable(text, other) for other in shorter)]
                self.assertEqual(before, [], (row, word))

    def texts_just_ahead(self, word, many):
        at = int(word.replace("a", "0").replace("b", "1"), 2)
        return [format(less, "b").zfill(len(word)).replace("0", "a").replace("1", "b")
                for less in range(max(0, at - many), at)]

    def test_large(self):
        self.assertEqual(half_book("ab", (0,) * 399 + (400,)).words,
                         tuple(text.zfill(400).replace("0", "a").replace("1", "b")
                               for text in [format(at, "b") for at in range(400)]))
        self.assertEqual(half_book("ab", (0,) + (1,) * 399).words[:5], ("aa", "aba", "abba", "abbba", "abbbba"))
        self.assertEqual(half_book("ab", (0,) + (1,) * 399).words[-1], "a" + "b" * 398 + "a")
        for letters in ["ab", "abc"]:
            for row in random_rows(4, 4, 300, letters):
                self.assertEqual(numbers(half_book(letters, row)), row)
        row = (0,) * 8 + (128,) + (0,) * 390 + (272,)
        told = half_book("ab", row)
        self.assertEqual(numbers(told), row)
        self.assertEqual((told[0], told[127], told[128][:2], told[128][-9:]), ("a" * 9, "aabbbbbbb", "ab", "abaaaaaaa"))

    def test_share_of_one_half(self):
        self.assertEqual(half_book("ab", (1,)).words, ("a",))
        self.assertEqual(half_book("ab", (0, 1, 1, 2)).words, plain_half("ab", (0, 1, 1, 2)))
        self.check_error(half_book, ("ab", (1,) + (0,) * 398 + (1,)), InvalidOperation)
        self.check_error(half_book, ("ab", (0, 1, 1, 3)), InvalidOperation)
        self.check_error(half_book, ("m", (1,)), InvalidOperation)
        self.check_error(half_book, ("m", (0,) * 399 + (1,)), InvalidOperation)
        self.check_error(half_book, ("abc", (1, 2)), InvalidOperation)

    def test_any_words_will_do(self):
        # [0.18]: chosen one after another, ascending, each as one likes among those that do not clash.
        chance = random.Random(9)
        for row in random_rows(8, 60, 6, "ab"):
            words = []
            for size, many in enumerate(row, 1):
                for _ in range(many):
                    words.append(chance.choice([text for text in all_texts("ab", size)[2 ** size - 1:]
                                                if not any(comparable(text, word) for word in words)]))
            self.assertEqual(numbers(Book("ab", tuple(words))), row)


class Full(unittest.TestCase, Refusing):
    def test_full_books(self):
        for book in FULL:
            self.assertIs(may_be_full(book.letters, numbers(book)), True)

    def test_rule(self):
        for letters, rows in [("ab", small_rows(4, (2, 4, 8, 16))), ("abc", small_rows(3, (3, 9, 27))),
                              ("m", small_rows(4, (2, 2, 2, 2)))]:
            for row in rows:
                mean = sum(size * Fraction(many, len(letters) ** size) for size, many in enumerate(row, 1))
                wanted = (share_of(letters, row) == 1 and mean.denominator == 1
                          and row[int(mean) - 1] >= len(letters) and (mean == 1 or row[0] == 0))
                self.assertIs(may_be_full(letters, row), wanted, (letters, row))

    def test_each_demand(self):
        for letters, row, wanted in [("ab", (0, 0, 8), True), ("ab", (0, 0, 7), False), ("ab", (0, 0, 9), False),
                                     ("ab", (2,), True), ("ab", (1,), False), ("ab", (), False), ("ab", (0, 4), True),
                                     ("ab", (0, 2, 4), False), ("ab", (0, 2, 2, 4), False), ("ab", (0, 2, 0, 8), False),
                                     ("m", (1,), True), ("m", (0, 0, 1), True), ("m", (0, 1, 1), False),
                                     ("abc", (3,), True), ("abc", (0, 9), True), ("abc", (0, 0, 27), True)]:
            self.assertIs(may_be_full(letters, row), wanted, (letters, row))
        # All but the last demand: a word of one letter, the mean length 2, two words of two letters and more.
        row = self.with_one_letter()
        self.assertEqual((share_of("abc", row), sum(size * Fraction(many, 3 ** size)
                                                    for size, many in enumerate(row, 1))), (1, 2))
        self.assertGreaterEqual(row[1], 3)
        self.assertIs(may_be_full("abc", row), False)

    def with_one_letter(self):
        for row in product(range(1, 3), range(3, 7), range(0, 28), range(0, 40)):
            if row[-1] and share_of("abc", row) == 1 and sum(
                    size * Fraction(many, 3 ** size) for size, many in enumerate(row, 1)) == 2:
                return row
        return None

    def test_may_be_but_cannot(self):
        # All is met, but no full book of degree 3 has the numbers.
        for row in [row for row in small_rows(5, (0, 2, 7, 6, 8)) if may_be_full("ab", row)]:
            mean = sum(size * Fraction(many, 2 ** size) for size, many in enumerate(row, 1))
            if mean == 3 and row not in full_numbers("ab", 3):
                break
        else:
            self.fail("there is none")
        self.assertNotIn(row, {numbers(book) for book in SMALL_FULL})

    def test_numbers_of_a_degree(self):
        for letters, degree in [("ab", 1), ("ab", 2), ("ab", 3), ("ab", 4), ("abc", 1), ("abc", 2), ("abc", 3),
                                ("m", 1), ("m", 5)]:
            wanted = sorted({numbers(book) for book in full_books(letters, degree)})
            self.assertEqual(full_numbers(letters, degree), tuple(wanted))
            if letters != "m" and degree < 4:
                self.assertEqual(set(wanted), {numbers(book) for book in SMALL_FULL
                                               if book.letters == letters and plain_degree(book) == degree})
        self.assertEqual(full_numbers("m", 400), ((0,) * 399 + (1,),))
        self.assertEqual(full_numbers("ab", 1), ((2,),))

    def test_large(self):
        self.assertIs(may_be_full("ab", (0,) * 7 + (256,)), True)
        self.assertIs(may_be_full("m", (0,) * 399 + (1,)), True)
        self.assertIs(may_be_full("ab", (1,) * 399 + (1,)), False)
        self.assertIs(may_be_full("ab", (0,) * 399 + (400,)), False)
        self.assertIs(is_full(have("ab", (0, 0, 0, 16))), True)


class Errors(unittest.TestCase, Refusing):
    def test_wrong_arguments(self):
        for call in [can_have, have, half_book, may_be_full]:
            self.check_wrong(call, ("ab", NO_LETTERS, InvalidLetters), ((0, 2), NO_NUMBERS, InvalidOperation))
        self.check_wrong(full_numbers, ("ab", NO_LETTERS, InvalidLetters), (2, no_numbers(1, 400), InvalidNumber))

    def test_just_at_the_limits(self):
        for row in [(), (1,), (0,) * 399 + (1,), (400,), (0,) * 399 + (400,), (1,) * 400, (0, 400), (399, 1)]:
            for call in [can_have, have, may_be_full]:
                try:
                    call("ab", row)
                except TooMany as error:
                    self.assertEqual((error.limit, call is may_be_full), (4, False))
            self.assertIs(may_be_full("abc", row), False)

    def test_operation_comes_ahead_of_too_many(self):
        for row in [(0, 0, 0, 0, 30, 0), (0, 0, 0, 0, True), (1, 0, 0, 0, 400)]:
            for call in [can_have, have]:
                self.check_error(call, ("ab", row), InvalidOperation)
                self.check_error(call, ("ba", row), InvalidLetters)

    def test_too_many_of_full_numbers(self):
        self.check_error(full_numbers, ("ab", 5), TooMany, {"limit": 9})
        self.check_error(full_numbers, ("abc", 4), TooMany, {"limit": 9})
        self.check_error(full_numbers, ("ab", 400), TooMany, {"limit": 9})

    def test_nothing_changes(self):
        row = (0, 1, 2)
        self.assertEqual(have("ab", row), have("ab", row))
        self.assertEqual(row, (0, 1, 2))


if __name__ == "__main__":
    unittest.main()
