"""[0.9], [0.13] and stage 5: ways."""

import unittest

from tests.samples import (ALIKE, FEW, NINE, NO_BOOKS, PAIRS, SPREAD, STRANGE, THIN, all_books, all_texts, cuts_brute,
                           nested, no_texts)
from twowaycuts.book.books import Book
from twowaycuts.book.ways import count_ways, counts, is_way, places, ways
from twowaycuts.errors import InvalidBook, InvalidText

EMPTY = Book("ab", ())
BOOKS = [FEW, NINE, PAIRS, EMPTY, Book("ab", ("a",)), Book("ab", ("a", "b")), Book("ab", ("aba",)),
         Book("ab", ("aa", "bab", "bb"))]


def plain_ways(book, text):
    """The ways by the words of [0.9], told as indices."""
    found = []
    for ahead, words, behind in cuts_brute(book, text):
        cuts = [len(ahead)]
        for word in words:
            cuts.append(cuts[-1] + len(word))
        found.append(tuple(cuts))
    return sorted(found)


class Examples(unittest.TestCase):
    def test_first(self):
        told = [count_ways(NINE, "abab"), counts(NINE, "abab"), list(ways(NINE, "abab")), places(NINE, "abab"),
                count_ways(FEW, "abab"), list(ways(PAIRS, "abb"))]
        wanted = [3, (1, 2, 2, 3, 3), [(0, 2, 4), (1,), (3,)], ((0, "ab"), (2, "ab")), 2, [(0, 2), (1, 3)]]
        self.assertEqual(told, wanted)

    def test_second(self):
        told = [is_way(NINE, "abab", (1,)), is_way(NINE, "abab", (0, 2)), counts(FEW, "bbaab"), list(ways(FEW, ""))]
        self.assertEqual(told, [True, False, (1, 2, 3, 3, 4, 4), [(0,)]])


class Counting(unittest.TestCase):
    def test_three_countings(self):
        for book in BOOKS + list(all_books("ab", 3, 2)):
            for text in all_texts("ab", 6):
                size = len(text)
                beginnings = [text[:n] for n in range(size + 1)]
                ends = [text[n:] for n in range(size + 1)]
                many = len([one for one in beginnings if not any(one.endswith(word) for word in book.words)])
                self.assertEqual(many, len([one for one in ends if not any(one.startswith(w) for w in book.words)]))
                standing = [(n, word) for n in range(size) for word in book.words if text[n:n + len(word)] == word]
                self.assertEqual(many, size + 1 - len(standing))
                self.assertEqual(count_ways(book, text), many)
                self.assertEqual(places(book, text), tuple(sorted(standing)))
                self.assertEqual(len(list(ways(book, text))), many)

    def test_counts_are_those_of_beginnings(self):
        for book in BOOKS:
            for text in all_texts("ab", 6):
                self.assertEqual(counts(book, text), tuple(count_ways(book, text[:n]) for n in range(len(text) + 1)))

    def test_bounded_if_full(self):
        for book, degree in [(PAIRS, 2), (NINE, 3), (Book("ab", ("a", "b")), 1)]:
            self.assertEqual(max(count_ways(book, text) for text in all_texts("ab", 9)), degree)
        self.assertEqual(count_ways(FEW, "b" * 4000), 4001)
        self.assertEqual(count_ways(FEW, "aab" * 1300), 2 + 1300)

    def test_edges(self):
        for book in BOOKS:
            self.assertEqual((count_ways(book, ""), counts(book, ""), places(book, "")), (1, (1,), ()))
        self.assertEqual(counts(EMPTY, "aba"), (1, 2, 3, 4))
        self.assertEqual(places(EMPTY, "aba"), ())
        book = Book("m", ("mm",))
        self.assertEqual((count_ways(book, "mmmmm"), counts(book, "mmmmm")), (2, (1, 2, 2, 2, 2, 2)))
        self.assertEqual(list(ways(book, "mmmmm")), [(0, 2, 4), (1, 3, 5)])
        self.assertEqual(places(Book("acz", ("cz", "zc", "a")), "czcaz"), ((0, "cz"), (1, "zc"), (3, "a")))

    def test_long_texts(self):
        text = "ab" * 2000
        self.assertEqual(count_ways(FEW, text), 2)
        self.assertEqual(counts(FEW, text), (1,) + (2,) * 4000)
        self.assertEqual(list(ways(FEW, text)), [tuple(range(0, 4001, 2)), tuple(range(1, 4000, 2))])
        self.assertEqual(len(places(FEW, text)), 3999)
        self.assertEqual(list(ways(EMPTY, "b" * 4000)), [(n,) for n in range(4001)])
        self.assertEqual(list(ways(THIN, "a" * 4000)), [tuple(range(4001))])
        self.assertEqual(count_ways(THIN, "a" + "b" * 3999), 2)
        for book in [ALIKE, SPREAD]:
            words = [book[number * 37] for number in range(10)]
            text = "".join(words)
            found = places(book, text)
            self.assertTrue({(400 * at, word) for at, word in enumerate(words)} <= set(found))
            for index, word in found:
                self.assertEqual(text[index:index + 400], word)
            self.assertEqual(count_ways(book, text), 4001 - len(found))
            self.assertEqual(counts(book, text)[-1], 4001 - len(found))
            self.assertEqual(next(ways(book, text)), tuple(range(0, 4001, 400)))


class Ways(unittest.TestCase):
    def test_small_texts(self):
        for book in BOOKS + list(all_books("ab", 3, 2)):
            for text in all_texts("ab", 5):
                self.assertEqual(list(ways(book, text)), plain_ways(book, text), (book.words, text))

    def test_each_call_starts_anew(self):
        first, second = ways(NINE, "abab"), ways(NINE, "abab")
        self.assertEqual([next(first), next(first), next(second)], [(0, 2, 4), (1,), (0, 2, 4)])
        self.assertEqual(list(second), [(1,), (3,)])

    def test_errors_at_the_first_element(self):
        for book in NO_BOOKS:
            for text in ["ab", "c", 5]:
                found = ways(book, text)
                with self.assertRaises(InvalidBook):
                    next(found)
        for text in no_texts("ab"):
            found = ways(FEW, text)
            with self.assertRaises(InvalidText):
                next(found)

    def test_errors(self):
        for call in [count_ways, counts, places]:
            for book in NO_BOOKS:
                for text in ["ab", "c", 5]:
                    with self.assertRaises(InvalidBook):
                        call(book, text)
            for text in no_texts("ab"):
                with self.assertRaises(InvalidText):
                    call(FEW, text)


class Judging(unittest.TestCase):
    def test_all_of_small_texts(self):
        rows = [()]
        for row in rows:
            rows.extend(row + (n,) for n in range(row[-1] + 1 if row else -1, 6))
        for book in BOOKS:
            for text in ["", "a", "ab", "aba", "abab", "abbab", "aabab"]:
                right = plain_ways(book, text)
                for value in rows:
                    self.assertIs(is_way(book, text, value), value in right, (book.words, text, value))

    def test_other_forms(self):
        text = "aab"
        self.assertEqual(plain_ways(FEW, text), [(0,), (1, 3), (2,)])
        for value in [(0,), (1, 3), (2,)]:
            self.assertIs(is_way(FEW, text, value), True)
        wrong = [(), [0], [1, 3], (1,), (3,), (1, 3, 3), (1, 1, 3), (3, 1), (0, 1), (4,), (-1,), (-3,), (-1, 1), (1, 4),
                 (0, 0), ((0,),), ((1, 3),), {0: 0}, "0", 0, (True, 3), (True,), (False,), (None,), ("0",), (1, "3"),
                 (1, None), (0, None), (10 ** 200,), (-10 ** 200,), (1, 10 ** 300 - 1), (0.0,), (1, 3, True), (1, (3,))]
        for value in wrong:
            self.assertIs(is_way(FEW, text, value), False, value)
        self.assertIs(is_way(EMPTY, "", (False,)), False)
        self.assertIs(is_way(EMPTY, "a", (True,)), False)

    def test_strange_values(self):
        for value in STRANGE:
            for form in [value, [value], (value, 3), (1, 3, value), nested(value, 3), {"a": value}]:
                if form not in [(0,), (1, 3), (2,)] or type(value) is bool:
                    self.assertIs(is_way(FEW, "aab", form), False, form)
        value = [1, [3]]
        is_way(FEW, "aab", value)
        self.assertEqual(value, [1, [3]])

    def test_long(self):
        text = "ab" * 2000
        self.assertIs(is_way(FEW, text, tuple(range(0, 4001, 2))), True)
        self.assertIs(is_way(FEW, text, tuple(range(1, 4000, 2))), True)
        self.assertIs(is_way(FEW, text, tuple(range(0, 4000, 2))), False)
        self.assertIs(is_way(FEW, text, tuple(range(0, 4001))), False)
        self.assertIs(is_way(THIN, "a" * 4000, tuple(range(4001))), True)

    def test_errors(self):
        for book in NO_BOOKS:
            for text in ["ab", "c", None]:
                with self.assertRaises(InvalidBook):
                    is_way(book, text, (0,))
        for text in no_texts("ab"):
            with self.assertRaises(InvalidText):
                is_way(FEW, text, (0,))


if __name__ == "__main__":
    unittest.main()
