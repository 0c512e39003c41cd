"""[15.1] and stage 15: wrong letters, lost letters, mirrors."""

import random
import unittest
from itertools import product

from tests.fullbooks import FULL, SMALL_FULL, plain_count, plain_degree, plain_inner
from tests.refused import Refusing, no_numbers
from tests.samples import (ALIKE, FEW, NINE, NO_BOOKS, PAIRS, SPREAD, THIN, all_books, all_texts, no_texts, numbered,
                           row_brute)
from twowaycuts.book.books import Book
from twowaycuts.book.chances import chance, mean, numbers, share
from twowaycuts.book.cuts import cut_left, cut_right
from twowaycuts.book.full import first_free, is_free, is_full
from twowaycuts.book.ways import count_ways, ways
from twowaycuts.errors import InvalidBook, InvalidNumber, InvalidText, TooMany
from twowaycuts.full.exchanges import exchange, exchangeable
from twowaycuts.full.inner import degree, inner_texts, inner_words
from twowaycuts.plan.ladders import thicker, thinner
from twowaycuts.text.wrong import (MAX_LOST, around, fillings, is_mirrored, mirrored, near_rows, sure_words,
                                   wrong_places)

EMPTY = Book("ab", ())
LETTERS = Book("abc", ("a", "b", "c"))
# Small books, full or not, over one, two and three letters.
SMALL = list(all_books("ab", 3, 3)) + SMALL_FULL[:40] + [
    EMPTY, Book("a", ()), Book("a", ("a",)), Book("a", ("aaa",)), Book("abc", ("a", "bb", "bcb", "cab")), LETTERS,
    Book("abc", ("ab", "ca", "bc")), Book.uniform("abc", 2), Book("abc", ()), Book("ab", ("a", "bab", "bb"))]


def plain_near(book, text):
    """All near rows, by trying all letters at all indices."""
    texts = {text} | {text[:at] + letter + text[at + 1:] for at in range(len(text)) for letter in book.letters}
    return tuple(sorted(one for one in texts if row_brute(book, one) is not None))


def pairs_of(row):
    """The pairs (index, word) of a row of words."""
    found, at = set(), 0
    for word in row:
        found.add((at, word))
        at += len(word)
    return found


def check_near(case, book, text):
    rows = plain_near(book, text)
    case.assertEqual(near_rows(book, text), rows, (book.words, text))
    places = {at for row in rows for at in range(len(text)) if row[at] != text[at]}
    case.assertEqual(wrong_places(book, text), tuple(sorted(places)), (book.words, text))
    told = sure_words(book, text)
    if not rows:
        case.assertIsNone(told)
        return
    sure = set.intersection(*[pairs_of(row_brute(book, row)) for row in rows])
    case.assertEqual(told, tuple(sorted(sure)), (book.words, text))


class Examples(unittest.TestCase):
    def test_first(self):
        told = [near_rows(PAIRS, "aba"), near_rows(FEW, "abbb"), wrong_places(FEW, "abbb"), sure_words(FEW, "abbb"),
                sure_words(FEW, "aaaa"), near_rows(FEW, "")]
        self.assertEqual(told, [(), ("abab", "abba"), (2, 3), ((0, "ab"),), None, ("",)])

    def test_second(self):
        told = [around(FEW, "abbaabba", 3, 5), fillings(FEW, "abbaabba", 3, 5), len(fillings(PAIRS, "abba", 1, 3)),
                mirrored(NINE).words[:3], is_mirrored(PAIRS), is_mirrored(NINE)]
        self.assertEqual(told, [(("ab",), ("ba",)), ("abbaabba",), 4, ("ba", "aaa", "aab"), True, False])

    def test_constant(self):
        self.assertEqual(MAX_LOST, 4)


class Near(unittest.TestCase, Refusing):
    def test_all_texts_of_small_books(self):
        for book in SMALL:
            for text in all_texts(book.letters, 6 if len(book.letters) == 2 else 4):
                check_near(self, book, text)

    def test_rows_of_greater_books(self):
        chance_of = random.Random(15)
        for book in FULL[::5] + [Book("ab", ("a", "bab", "bbb")), Book("abc", ("ca", "b", "aac", "acba"))]:
            for many in range(6):
                row = "".join(chance_of.choice(book.words) for _ in range(many))[:60]
                check_near(self, book, row)
                for _ in range(2):
                    at = chance_of.randrange(len(row) + 1)
                    row = row[:at] + chance_of.choice(book.letters) + row[at + 1:]
                    check_near(self, book, row)

    def test_empty(self):
        for book in (EMPTY, FEW, NINE, Book("a", ())):
            self.assertEqual(near_rows(book, ""), ("",))
            self.assertEqual(wrong_places(book, ""), ())
            self.assertEqual(sure_words(book, ""), ())
        self.assertEqual((near_rows(EMPTY, "a"), wrong_places(EMPTY, "a"), sure_words(EMPTY, "a")), ((), (), None))

    def test_a_row_that_is_also_near_others(self):
        self.assertEqual(near_rows(PAIRS, "aa"), ("aa", "ab", "ba"))
        self.assertEqual(wrong_places(PAIRS, "aa"), (0, 1))
        self.assertEqual(sure_words(PAIRS, "aabb"), ())
        # One near row alone tells all of its words, the wrong one among them.
        self.assertEqual(near_rows(Book("ab", ("aab", "ba")), "bab"), ("aab",))
        self.assertEqual(sure_words(Book("ab", ("aab", "ba")), "baaaaba"), ((0, "ba"), (2, "aab"), (5, "ba")))
        self.assertEqual(sure_words(Book("ab", ("aab", "ba")), "baaabba"), ((0, "ba"), (2, "aab"), (5, "ba")))

    def test_long_texts(self):
        text = "ab" * 2000
        self.assertEqual(near_rows(FEW, text), (text,))
        self.assertEqual(near_rows(FEW, "ab" * 999 + "aa" + "ab" * 1000), (text, "ab" * 999 + "ba" + "ab" * 1000))
        self.assertEqual(sure_words(FEW, "ab" * 999 + "aa" + "ab" * 1000),
                         tuple((2 * at, "ab") for at in range(2000) if at != 999))
        rows = near_rows(LETTERS, "abca" * 1000)
        self.assertEqual((len(rows), len(set(rows)), rows), (8001, 8001, tuple(sorted(rows))))
        self.assertEqual(wrong_places(LETTERS, "c" * 4000), tuple(range(4000)))
        self.assertEqual(sure_words(LETTERS, "c" * 4000), ())
        self.assertEqual(near_rows(Book("a", ("a",)), "a" * 4000), ("a" * 4000,))
        self.assertEqual(sure_words(Book("a", ("a" * 400,)), "a" * 4000), tuple((at, "a" * 400) for at in range(0, 4000, 400)))
        self.assertEqual(near_rows(Book("a", ("a" * 400,)), "a" * 3999), ())

    def test_large_books(self):
        for book in (ALIKE, SPREAD, THIN):
            row = "".join(book.words[at * 37 + 20] for at in range(10))
            at = len(row) // 2
            self.assertIn(row, near_rows(book, row))
            wrong = row[:at] + ("a" if row[at] == "b" else "b") + row[at + 1:]
            self.assertIn(row, near_rows(book, wrong))
            self.assertIn(at, wrong_places(book, wrong))
            self.assertLessEqual(set(sure_words(book, wrong)), pairs_of(row_brute(book, row)))
        # A book with a word of one letter and many long ones.
        long = Book("abc", ("a",) + tuple("b" + "a" * 380 + word + "c" for word in numbered(300, 10)))
        self.assertEqual(near_rows(long, "a" * 4000), ("a" * 4000,))
        self.assertEqual(len(near_rows(long, "b" + "a" * 390 + "b" + "a" * 3600)), 1)

    def test_wrong_arguments(self):
        for call in (near_rows, wrong_places, sure_words):
            self.check_wrong(call, (FEW, NO_BOOKS, InvalidBook), ("ab", no_texts("ab"), InvalidText))


class Lost(unittest.TestCase, Refusing):
    def plain_fillings(self, book, text, start, end):
        found = []
        for signs in product(book.letters, repeat=end - start):
            one = text[:start] + "".join(signs) + text[end:]
            if row_brute(book, one) is not None:
                found.append(one)
        return tuple(sorted(found))

    def check(self, book, text, start, end):
        ahead, behind = around(book, text, start, end)
        self.assertEqual(ahead, cut_left(book, text[:start])[0])
        self.assertEqual(behind, cut_right(book, text[end:])[1])
        if end - start > 4:
            self.check_error(fillings, (book, text, start, end), TooMany, {"limit": 4})
            return
        rows = fillings(book, text, start, end)
        self.assertEqual(rows, self.plain_fillings(book, text, start, end), (book.words, text, start, end))
        for row in rows:
            words = row_brute(book, row)
            self.assertEqual(words[:len(ahead)], ahead)
            self.assertEqual(words[len(words) - len(behind):], behind)

    def test_small_books(self):
        for book in SMALL[::3]:
            texts = all_texts(book.letters, 5 if len(book.letters) == 2 else 3)
            for text in texts[::7] + texts[:8]:
                for start in range(len(text) + 1):
                    for end in range(start, len(text) + 1):
                        self.check(book, text, start, end)

    def test_rows_of_greater_books(self):
        chance_of = random.Random(4)
        for book in FULL[::6] + [FEW, Book("ab", ("a", "bab", "bbb")), Book("abc", ("ca", "b", "aac", "acba"))]:
            for many in range(1, 7):
                row = "".join(chance_of.choice(book.words) for _ in range(many))[:80]
                start = chance_of.randrange(len(row) + 1)
                for end in range(start, min(len(row), start + 5) + 1):
                    self.check(book, row, start, end)
                self.check(book, row, 0, min(3, len(row)))
                self.check(book, row, max(0, len(row) - 3), len(row))
                self.check(book, row, 0, 0)
                self.check(book, row, len(row), len(row))

    def test_bounds(self):
        self.assertEqual(around(FEW, "", 0, 0), ((), ()))
        self.assertEqual(fillings(FEW, "", 0, 0), ("",))
        self.assertEqual(fillings(EMPTY, "", 0, 0), ("",))
        self.assertEqual(fillings(EMPTY, "ab", 0, 2), ())
        self.assertEqual(fillings(FEW, "abab", 4, 4), ("abab",))
        self.assertEqual(fillings(FEW, "abaa", 0, 0), ())
        self.assertEqual(fillings(FEW, "abba", 0, 4), ("abab", "abba", "baab", "baba"))
        self.assertEqual(around(FEW, "abba", 0, 4), ((), ()))
        self.assertEqual(around(FEW, "abba", 4, 4), (("ab", "ba"), ()))
        self.assertEqual(around(FEW, "abba", 0, 0), ((), ("ab", "ba")))
        self.check_error(fillings, (FEW, "ababab", 1, 6), TooMany, {"limit": 4})
        self.assertEqual(around(FEW, "ababab", 1, 6), ((), ()))

    def test_long_texts(self):
        text = "ab" * 2000
        self.assertEqual(fillings(FEW, text, 1998, 2002),
                         tuple("ab" * 999 + one + "ab" * 999 for one in ("abab", "abba", "baab", "baba")))
        self.assertEqual(fillings(FEW, "a" * 4000, 1998, 2002), ())
        self.assertEqual(around(FEW, text, 2001, 3999), (("ab",) * 1000, ()))
        for book in (ALIKE, SPREAD):
            row = "".join(book.words[at] for at in range(10))
            self.assertIn(row, fillings(book, row, 1998, 2002))
            self.assertEqual(around(book, row, 1998, 2002), (tuple(book.words[:4]), tuple(book.words[6:10])))

    def test_wrong_arguments(self):
        for call in (around, fillings):
            self.check_wrong(call, (FEW, NO_BOOKS, InvalidBook), ("abab", no_texts("ab"), InvalidText),
                             (2, no_numbers(0, 4), InvalidNumber), (3, no_numbers(2, 4), InvalidNumber))
            for start, end in ((3, 2), (4, 3), (1, 0), (0, 5), (4, 5)):
                self.check_error(call, (FEW, "abab", start, end), InvalidNumber, {"value": end})
            for start in (5, 9):
                self.check_error(call, (FEW, "abab", start, start), InvalidNumber, {"value": start})


class Mirrors(unittest.TestCase, Refusing):
    def test_the_words(self):
        for book in SMALL + FULL + [ALIKE, SPREAD, THIN]:
            told = mirrored(book)
            self.assertEqual(told, Book(book.letters, tuple(word[::-1] for word in book.words)))
            self.assertEqual(mirrored(told), book)
            self.assertIs(is_mirrored(book), set(book.words) == {word[::-1] for word in book.words})
        self.assertIs(is_mirrored(EMPTY), True)
        self.assertIs(is_mirrored(FEW), True)
        self.assertIs(is_mirrored(THIN), True)

    def test_full_books(self):
        for book in FULL:
            told = mirrored(book)
            self.assertTrue(is_full(told))
            self.assertEqual(degree(told), degree(book))
            self.assertEqual(plain_degree(told), plain_degree(book))
            self.assertEqual(inner_words(told), mirrored(Book(book.letters, inner_words(book))).words)
            self.assertEqual(exchangeable(told), tuple(sorted((text[::-1] for text in exchangeable(book)),
                                                              key=lambda text: (len(text), text))))
        for book in SMALL_FULL:
            told = mirrored(book)
            if degree(book) > 1:
                self.assertEqual(thinner(told), mirrored(thinner(book)))
            if len(book) < 30:
                self.assertEqual(thicker(told), mirrored(thicker(book)))
            for text in exchangeable(book):
                self.assertEqual(exchange(told, text[::-1]), mirrored(exchange(book, text)))

    def test_ways_and_sums(self):
        for book in SMALL + SMALL_FULL[::7]:
            told = mirrored(book)
            self.assertEqual((share(told), numbers(told)), (share(book), numbers(book)))
            some = (2, 5, 3)[:len(book.letters)]
            self.assertEqual((chance(told, some), mean(told, some)), (chance(book, some), mean(book, some)))
            for text in all_texts(book.letters, 4):
                self.assertEqual(count_ways(told, text[::-1]), count_ways(book, text))
                self.assertEqual(count_ways(told, text[::-1]), plain_count(book.words, text))
                turned = sorted(tuple(len(text) - cut for cut in way[::-1]) for way in ways(book, text))
                self.assertEqual(list(ways(told, text[::-1])), turned)
                self.assertEqual(cut_left(told, text[::-1])[0], tuple(word[::-1] for word in cut_right(book, text)[1][::-1]))
                self.assertIs(is_free(told, text[::-1]), is_free(book, text))
                self.assertIs(plain_inner(told, text[::-1]), plain_inner(book, text))
            one, other = first_free(told), first_free(book)
            self.assertEqual(None if one is None else len(one), None if other is None else len(other))
            for size in range(4):
                self.assertEqual(set(inner_texts(told, size)), {text[::-1] for text in inner_texts(book, size)})

    def test_near_rows(self):
        for book in SMALL[::5]:
            told = mirrored(book)
            for text in all_texts(book.letters, 4):
                self.assertEqual(near_rows(told, text[::-1]), tuple(sorted(row[::-1] for row in near_rows(book, text))))

    def test_wrong_arguments(self):
        self.check_wrong(mirrored, (FEW, NO_BOOKS, InvalidBook))
        self.check_wrong(is_mirrored, (FEW, NO_BOOKS, InvalidBook))


if __name__ == "__main__":
    unittest.main()
