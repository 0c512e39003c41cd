"""[0.9] and stage 3: cuts from both ends."""

import unittest

from tests.samples import (ALIKE, FEW, NINE, NO_BOOKS, PAIRS, SPREAD, STRANGE, THIN, all_books, all_texts, cuts_brute,
                           nested, no_texts, row_brute)
from twowaycuts.book.books import Book
from twowaycuts.book.cuts import cut_left, cut_right, is_cut, is_row, row_of
from twowaycuts.errors import InvalidBook, InvalidText

EMPTY = Book("ab", ())
BOOKS = [FEW, NINE, PAIRS, EMPTY, Book("ab", ("a",)), Book("ab", ("a", "b")), Book("ab", ("aba",)),
         Book("ab", ("aa", "bab", "bb"))]


def plain_left(book, text):
    """The cut from the left, word by word."""
    taken = ()
    while True:
        first = [word for word in book.words if text[:len(word)] == word]
        if not first:
            return taken, text
        taken, text = taken + (first[0],), text[len(first[0]):]


def plain_right(book, text):
    taken = ()
    while True:
        last = [word for word in book.words if word == text[max(0, len(text) - len(word)):]]
        if not last:
            return text, taken
        taken, text = (last[0],) + taken, text[:len(text) - len(last[0])]


class Examples(unittest.TestCase):
    def test_first(self):
        told = [cut_left(NINE, "abaabab"), cut_right(NINE, "abaabab"), row_of(NINE, "abaaba"), row_of(FEW, "abbaab"),
                row_of(FEW, "")]
        wanted = [(("ab", "aaba"), "b"), ("aba", ("ab", "ab")), ("ab", "aaba"), ("ab", "ba", "ab"), ()]
        self.assertEqual(told, wanted)

    def test_second(self):
        told = [is_row(FEW, "aab"), is_cut(PAIRS, "aba", ("a", ("ba",), "")), is_cut(PAIRS, "aba", ("", (), "aba"))]
        self.assertEqual(told, [False, True, False])


class Rows(unittest.TestCase):
    def test_small_books(self):
        for book in list(all_books("ab", 3, 2)) + BOOKS:
            for text in all_texts("ab", 6):
                row = row_brute(book, text)
                self.assertEqual(cut_left(book, text), plain_left(book, text))
                self.assertEqual(cut_right(book, text), plain_right(book, text))
                self.assertEqual(row_of(book, text), row)
                self.assertIs(is_row(book, text), row is not None)
                if row is not None:
                    self.assertEqual(cut_left(book, text), (row, ""))
                    self.assertEqual(cut_right(book, text), ("", row))

    def test_one_and_three_letters(self):
        book = Book("m", ("mmm",))
        self.assertEqual(cut_left(book, "mmmmm"), (("mmm",), "mm"))
        self.assertEqual(cut_right(book, "mmmmm"), ("mm", ("mmm",)))
        self.assertEqual((row_of(book, "m" * 6), row_of(book, "m" * 5)), (("mmm", "mmm"), None))
        book = Book("acz", ("a", "cz", "zc"))
        self.assertEqual(cut_left(book, "czazcc"), (("cz", "a", "zc"), "c"))
        self.assertEqual(cut_right(book, "czazcc"), ("czazcc", ()))

    def test_empty(self):
        for book in BOOKS:
            self.assertEqual(cut_left(book, ""), ((), ""))
            self.assertEqual(cut_right(book, ""), ("", ()))
            self.assertEqual(row_of(book, ""), ())
            self.assertIs(is_row(book, ""), True)
        self.assertEqual(cut_left(EMPTY, "abba"), ((), "abba"))
        self.assertEqual(cut_right(EMPTY, "abba"), ("abba", ()))
        self.assertIsNone(row_of(EMPTY, "a"))
        self.assertIs(is_row(EMPTY, "a"), False)

    def test_greedy_ends_early(self):
        # A row of words can stand behind what is left: only beginnings are taken off.
        self.assertEqual(cut_left(FEW, "aababab"), ((), "aababab"))
        self.assertEqual(cut_right(FEW, "aababab"), ("a", ("ab", "ab", "ab")))
        self.assertEqual(cut_right(FEW, "ababb"), ("ababb", ()))
        self.assertEqual(cut_left(FEW, "ababb"), (("ab", "ab"), "b"))

    def test_long_texts(self):
        self.assertEqual(row_of(FEW, "ab" * 2000), ("ab",) * 2000)
        self.assertEqual(row_of(FEW, "abba" * 1000), ("ab", "ba") * 1000)
        self.assertEqual(cut_left(FEW, "ab" * 1999 + "aa"), (("ab",) * 1999, "aa"))
        self.assertEqual(cut_right(FEW, "aa" + "ab" * 1999), ("aa", ("ab",) * 1999))
        self.assertEqual(row_of(THIN, "a" * 4000), ("a",) * 4000)
        self.assertEqual(cut_left(THIN, "a" + "b" * 3999), (("a",) + ("bb",) * 1999, "b"))
        for book in [ALIKE, SPREAD]:
            words = tuple(book[number * 37] for number in range(10))
            text = "".join(words)
            self.assertEqual(len(text), 4000)
            self.assertEqual(row_of(book, text), words)
            self.assertEqual(cut_left(book, text[:3999]), (words[:9], text[3600:3999]))
            self.assertEqual(cut_right(book, text[1:]), (text[1:400], words[1:]))
            self.assertIs(is_cut(book, text, ("", words, "")), True)
            self.assertIs(is_cut(book, text[1:3999], (text[1:400], words[1:9], text[3600:3999])), True)
            self.assertIs(is_cut(book, text, ("", words[::-1], "")), False)

    def test_errors(self):
        for call in [cut_left, cut_right, row_of, is_row]:
            for book in NO_BOOKS:
                for text in ["ab", "c", 5]:
                    with self.assertRaises(InvalidBook):
                        call(book, text)
            for text in no_texts("ab"):
                with self.assertRaises(InvalidText):
                    call(FEW, text)


class Judging(unittest.TestCase):
    def candidates(self, book, text):
        """Values of the right form, right or wrong ones."""
        pieces = [(text[:start], text[start:end], text[end:]) for start in range(len(text) + 1)
                  for end in range(start, len(text) + 1)]
        for ahead, middle, behind in pieces:
            for words in [(), (middle,), row_brute(book, middle), tuple(middle), (middle, ""),
                          (middle[:1], middle[1:]), (middle[:2], middle[2:]), (middle, middle)]:
                if words is not None:
                    yield (ahead, words, behind)

    def test_all_of_small_texts(self):
        for book in BOOKS:
            for text in all_texts("ab", 5):
                right = cuts_brute(book, text)
                for value in right:
                    self.assertIs(is_cut(book, text, value), True, (book.words, text, value))
                for value in self.candidates(book, text):
                    self.assertIs(is_cut(book, text, value), value in right, (book.words, text, value))

    def test_other_forms(self):
        right = ("a", ("ba",), "")
        self.assertIs(is_cut(PAIRS, "aba", right), True)
        wrong = [list(right), ("a", ["ba"], ""), ("a", "ba", ""), ("a", ("ba",)), ("a", ("ba",), "", ""), (right,), (),
                 "aba", ("a", ("b", "a"), ""), ("", ("aba",), ""), ("a", ("ba", ""), ""), ("a", ("", "ba"), ""),
                 (("a",), ("ba",), ""), ("a", ("ba",), None), (None, ("ba",), ""), {"a": ("ba",)}, ("ab", (), "a"),
                 ("A", ("ba",), ""), ("", ("ab",), ""), ("a", ("bb",), ""), ("a", (("ba",),), ""), ("a", {"ba": 1}, "")]
        for value in wrong:
            self.assertIs(is_cut(PAIRS, "aba", value), False, value)

    def test_strange_values(self):
        for value in STRANGE:
            for form in [value, (value, (), ""), ("a", value, ""), ("a", (value,), ""), ("a", ("ba", value), ""),
                         ("a", ("ba",), value), (value, value, value), (value,) * 4, nested(value, 3)]:
                self.assertIs(is_cut(PAIRS, "aba", form), False)
        value = ["a", ("ba",), [1]]
        is_cut(PAIRS, "aba", value)
        self.assertEqual(value, ["a", ("ba",), [1]])

    def test_empty_text(self):
        for book in BOOKS:
            self.assertIs(is_cut(book, "", ("", (), "")), True)
            self.assertIs(is_cut(book, "", ("", ("",), "")), False)
            self.assertIs(is_cut(book, "", ("", ("ab",), "")), False)
            self.assertIs(is_cut(book, "", ()), False)

    def test_errors(self):
        for book in NO_BOOKS:
            for text in ["ab", "c", None]:
                with self.assertRaises(InvalidBook):
                    is_cut(book, text, ("", (), ""))
        for text in no_texts("ab"):
            with self.assertRaises(InvalidText):
                is_cut(FEW, text, ("", (), ""))


if __name__ == "__main__":
    unittest.main()
