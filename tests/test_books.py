"""[0.2], [0.8], [1.3] and stage 2: books."""

import unittest

from tests.samples import (ALIKE, FEW, NINE, NO_BOOKS, NO_LETTERS, NO_TUPLES, PAIRS, SPREAD, STRANGE, THIN, all_books,
                           all_texts, comparable, nested, no_texts, no_words, numbered)
from twowaycuts.book import books
from twowaycuts.book.books import Book, can_stand
from twowaycuts.errors import Clash, InvalidBook, InvalidLetters, InvalidNumber, InvalidOperation, InvalidText
from twowaycuts.errors import InvalidWord, TooMany

NO_INDICES = [value for value in STRANGE if type(value) is not int] + [10 ** 200, -1, -10 ** 300 + 1, slice(0, 2)]


def in_parts(letters, words):
    """The clash that the document tells, found by trying all pairs."""
    rows = sorted(set(words), key=lambda word: (len(word), word))
    for at, one in enumerate(rows):
        for other in rows[at + 1:]:
            if comparable(one, other):
                return (one, other)
    return None


class Examples(unittest.TestCase):
    def test_first(self):
        told = [PAIRS.words, PAIRS.longest, str(NINE), NINE[5], "ab" in FEW,
                FEW * FEW == Book("ab", ("abab", "abba", "baab", "baba")), Book.uniform("ab", 2) == PAIRS]
        wanted = [("aa", "ab", "ba", "bb"), 2, "book of 9 words over ab", "aaba", True, True, True]
        self.assertEqual(told, wanted)

    def test_second(self):
        told = [can_stand(FEW, "bb"), can_stand(FEW, "aab"), can_stand(FEW, "a"), FEW.with_word("aa").words,
                len(NINE.without_word("ab"))]
        self.assertEqual(told, [True, False, False, ("aa", "ab", "ba"), 8])

    def test_third(self):
        with self.assertRaises(Clash) as caught:
            Book("ab", ("bab", "a", "ba"))
        self.assertEqual((caught.exception.one, caught.exception.other), ("a", "ba"))

    def test_constant(self):
        self.assertEqual(books.MAX_WORDS, 400)


class Making(unittest.TestCase):
    def test_any_order_and_twice(self):
        for words in [("ba", "ab"), ("ab", "ba", "ab"), ("ba",) * 500 + ("ab",) * 500]:
            self.assertEqual(Book("ab", words), FEW)
            self.assertEqual(Book("ab", words).words, ("ab", "ba"))

    def test_no_words(self):
        book = Book("abc", ())
        self.assertEqual((book.letters, book.words, book.longest, len(book), list(book)), ("abc", (), 0, 0, []))

    def test_invalid_letters(self):
        for letters in NO_LETTERS:
            for words in [("a",), (5,), 5]:
                with self.assertRaises(InvalidLetters):
                    Book(letters, words)

    def test_no_tuple(self):
        for words in NO_TUPLES + ["ab", ["ab"], {"ab": True}]:
            with self.assertRaises(InvalidOperation):
                Book("ab", words)

    def test_invalid_words(self):
        for letters in ["a", "ab", "abc"]:
            for word in no_words(letters):
                for words in [(word,), ("a", word), (word, "a", "aa")]:
                    with self.assertRaises(InvalidWord):
                        Book(letters, words)

    def test_invalid_word_ahead_of_the_rest(self):
        many = tuple(numbered(401, 9))
        for words in [many + ("c",), ("a", "ab", ""), many + ("a", None)]:
            with self.assertRaises(InvalidWord):
                Book("ab", words)

    def test_too_many(self):
        many = tuple(numbered(401, 9))
        self.assertEqual(len(Book("ab", many[:400])), 400)
        self.assertEqual(len(Book("ab", many[:400] * 3)), 400)
        for words in [many, many + many, many[:400] + ("b",), ("a",) + many]:
            with self.assertRaises(TooMany) as caught:
                Book("ab", words)
            self.assertEqual(caught.exception.limit, 400)

    def test_clashes(self):
        rows = [("a", "ab"), ("a", "ba"), ("ab", "abba", "bab"), ("aab", "b", "abaab"), ("bb", "aa", "abb", "baa"),
                ("aba", "bb", "babab", "aabb"), ("b", "a", "ab")]
        for words in rows:
            with self.assertRaises(Clash) as caught:
                Book("ab", words)
            self.assertEqual((caught.exception.one, caught.exception.other), in_parts("ab", words))

    def test_inside_is_no_clash(self):
        self.assertEqual(len(Book("ab", ("ab", "aaba", "baba", "bb"))), 4)
        self.assertEqual(Book("ab", ("a", "bab")).words, ("a", "bab"))

    def test_all_small_pairs_and_triples(self):
        texts = all_texts("ab", 3)[1:]
        for one in texts:
            for two in texts:
                for three in texts:
                    words = (three, one, two)
                    wanted = in_parts("ab", words)
                    if wanted is None:
                        self.assertEqual(set(Book("ab", words).words), set(words))
                    else:
                        with self.assertRaises(Clash) as caught:
                            Book("ab", words)
                        self.assertEqual((caught.exception.one, caught.exception.other), wanted)

    def test_large_clash(self):
        words = ALIKE.words[:399]
        for short in ["a" * 190, "b" * 190, ALIKE[7][:399], ALIKE[7][1:]]:
            with self.assertRaises(Clash) as caught:
                Book("ab", words + (short,))
            self.assertEqual((caught.exception.one, caught.exception.other), in_parts("ab", words + (short,)))


class Uniform(unittest.TestCase):
    def test_words(self):
        self.assertEqual(Book.uniform("ab", 1).words, ("a", "b"))
        self.assertEqual(Book.uniform("ac", 3).words, tuple(all_texts("ac", 3)[7:]))
        self.assertEqual(len(Book.uniform("ab", 8)), 256)
        self.assertEqual(len(Book.uniform("abc", 5)), 243)
        self.assertEqual(Book.uniform("m", 1).words, ("m",))
        self.assertEqual(Book.uniform("m", 400).words, ("m" * 400,))

    def test_errors(self):
        for letters in NO_LETTERS:
            for size in [2, 0, "a"]:
                with self.assertRaises(InvalidLetters):
                    Book.uniform(letters, size)
        for size in NO_INDICES + [0, 401, 402]:
            with self.assertRaises(InvalidNumber) as caught:
                Book.uniform("ab", size)
            self.assertIs(caught.exception.value, size)
        for letters, size in [("ab", 9), ("ab", 400), ("abc", 6), ("abc", 400), ("xyz", 37)]:
            with self.assertRaises(TooMany) as caught:
                Book.uniform(letters, size)
            self.assertEqual(caught.exception.limit, 400)


class Reading(unittest.TestCase):
    def test_properties(self):
        self.assertEqual((NINE.letters, len(NINE.words), NINE.longest), ("ab", 9, 4))
        self.assertEqual(NINE.words, ("ab", "aaa", "baa", "bba", "bbb", "aaba", "aabb", "baba", "babb"))
        self.assertEqual((THIN.longest, ALIKE.longest, len(THIN), len(ALIKE)), (400, 400, 400, 400))

    def test_in(self):
        for word in NINE.words:
            self.assertTrue(word in NINE)
        for value in no_words("ab") + ["a", "b", "aa", "aab", "abab", ("ab",), ["ab"]]:
            self.assertIs(value in NINE, False)
        self.assertIs("" in Book("ab", ()), False)
        self.assertTrue(THIN[399] in THIN)

    def test_index(self):
        self.assertEqual([NINE[index] for index in range(9)], list(NINE.words))
        for index in NO_INDICES + [9, 10, 400, -9]:
            with self.assertRaises(InvalidNumber) as caught:
                NINE[index]
            self.assertIs(caught.exception.value, index)
        with self.assertRaises(InvalidNumber):
            Book("ab", ())[0]

    def test_iteration(self):
        self.assertEqual(list(NINE), list(NINE.words))
        self.assertEqual([word for word in Book("ab", ("bb", "a"))], ["a", "bb"])
        self.assertEqual(tuple(ALIKE), ALIKE.words)

    def test_equal(self):
        self.assertTrue(FEW == Book("ab", ("ba", "ab")))
        self.assertFalse(FEW != Book("ab", ("ba", "ab")))
        others = [Book("abc", ("ab", "ba")), Book("ab", ("ab",)), Book("ab", ("ab", "bb")), Book("ab", ()), PAIRS]
        for value in others + [value for value in NO_BOOKS] + [("ab", "ba"), object()]:
            self.assertIs(FEW == value, False)
            self.assertIs(FEW != value, True)
            self.assertIs(value == FEW, False)
        self.assertFalse(Book("a", ()) == Book("b", ()))

    def test_str(self):
        self.assertEqual(str(PAIRS), "book of 4 words over ab")
        self.assertEqual(str(Book("acz", ())), "book of 0 words over acz")
        self.assertEqual(str(Book("m", ("m",))), "book of 1 words over m")


class Changing(unittest.TestCase):
    def test_with_word(self):
        self.assertEqual(FEW.with_word("bb").words, ("ab", "ba", "bb"))
        self.assertEqual(FEW.with_word("aaa").with_word("bb").words, ("ab", "ba", "bb", "aaa"))
        self.assertEqual(FEW.words, ("ab", "ba"))

    def test_with_word_errors(self):
        for word in no_words("ab"):
            with self.assertRaises(InvalidWord):
                FEW.with_word(word)
        for word in FEW:
            with self.assertRaises(InvalidOperation):
                FEW.with_word(word)
        for word, clash in [("a", ("a", "ab")), ("aab", ("ab", "aab")), ("baab", ("ab", "baab")), ("b", ("b", "ab"))]:
            with self.assertRaises(Clash) as caught:
                FEW.with_word(word)
            self.assertEqual((caught.exception.one, caught.exception.other), clash)

    def test_with_word_in_a_full_row(self):
        for book in [ALIKE, THIN, SPREAD]:
            for word, error in [("c", InvalidWord), (book[5], InvalidOperation), ("b", TooMany), ("ab", TooMany)]:
                with self.assertRaises(error):
                    book.with_word(word)
        self.assertEqual(len(ALIKE.without_word(ALIKE[5]).with_word("ba")), 400)

    def test_without_word(self):
        self.assertEqual(FEW.without_word("ab").words, ("ba",))
        self.assertEqual(FEW.without_word("ab").without_word("ba"), Book("ab", ()))
        self.assertEqual(FEW.words, ("ab", "ba"))
        for word in no_words("ab"):
            with self.assertRaises(InvalidWord):
                FEW.without_word(word)
        for word in ["a", "aa", "abba", "a" * 400]:
            with self.assertRaises(InvalidOperation):
                FEW.without_word(word)

    def test_product(self):
        book = Book("ab", ("b", "aa")) * Book("ab", ("a", "bb"))
        self.assertEqual(book.words, ("ba", "aaa", "bbb", "aabb"))
        self.assertEqual(PAIRS * PAIRS, Book.uniform("ab", 4))
        self.assertEqual(FEW * Book("ab", ()), Book("ab", ()))
        self.assertEqual(Book("ab", ()) * ALIKE, Book("ab", ()))
        self.assertEqual(len(Book.uniform("ab", 4) * Book("ab", tuple(numbered(25, 5)))), 400)

    def test_product_is_in_this_order(self):
        self.assertEqual((Book("ab", ("a",)) * Book("ab", ("b",))).words, ("ab",))

    def test_product_errors(self):
        for value in NO_BOOKS + [Book("abc", ("ab",)), Book("a", ()), Book("ac", ("a", "c")), Book("abc", ())]:
            with self.assertRaises(InvalidOperation):
                FEW * value
            with self.assertRaises(InvalidOperation):
                value * FEW
        short, long = Book("ab", ("a", "b")), Book("ab", ("a" * 400, "b" * 399))
        pairs = [(Book.uniform("ab", 8), short), (ALIKE, FEW), (short, long), (long, short), (ALIKE, ALIKE),
                 (Book.uniform("ab", 4), Book("ab", tuple(numbered(26, 5))))]
        for one, other in pairs:
            with self.assertRaises(TooMany) as caught:
                one * other
            self.assertEqual(caught.exception.limit, 400)
        self.assertEqual((short * Book("ab", ("a" * 399,))).longest, 400)


class NothingChanges(unittest.TestCase):
    def test_properties_cannot_be_set(self):
        book = Book("ab", ("ab",))
        for name in ["letters", "words", "longest"]:
            with self.assertRaises(AttributeError):
                setattr(book, name, ())
        with self.assertRaises(TypeError):
            book[0] = "b"
        self.assertEqual(book, Book("ab", ("ab",)))

    def test_returned_values_are_plain(self):
        self.assertIs(type(NINE.words), tuple)
        self.assertIs(type(NINE.letters), str)
        self.assertIs(type(NINE.longest), int)
        row = list(NINE)
        row.clear()
        self.assertEqual(len(NINE), 9)

    def test_failed_calls_have_no_effect(self):
        book = Book("ab", ("ab", "ba"))
        for value in STRANGE:
            for call in [book.with_word, book.without_word, book.__getitem__]:
                if call != book.__getitem__ or type(value) is not int or value not in (0, 1):
                    with self.assertRaises((InvalidWord, InvalidNumber)):
                        call(value)
        self.assertEqual(book.words, ("ab", "ba"))
        self.assertEqual(book, FEW)

    def test_arguments_stay(self):
        words = ["a", ["b"]]
        with self.assertRaises(InvalidOperation):
            Book("ab", words)
        self.assertEqual(words, ["a", ["b"]])
        inner = nested("a", 10)
        with self.assertRaises(InvalidWord):
            Book("ab", ("a", inner))
        self.assertEqual(inner, nested("a", 10))

    def test_twins_are_independent(self):
        one, other = Book("ab", ("ab",)), Book("ab", ("ab",))
        one.with_word("ba")
        self.assertEqual(one, other)


class Standing(unittest.TestCase):
    def test_compared_with_making(self):
        for book in all_books("ab", 3, 3):
            for text in all_texts("ab", 4):
                wanted = text != "" and not any(comparable(text, word) for word in book)
                self.assertIs(can_stand(book, text), wanted, (book.words, text))
                if text and text not in book:
                    if wanted:
                        self.assertIn(text, book.with_word(text))
                    else:
                        with self.assertRaises(Clash):
                            book.with_word(text)

    def test_edges(self):
        self.assertIs(can_stand(Book("ab", ()), ""), False)
        self.assertIs(can_stand(Book("ab", ()), "a"), True)
        self.assertIs(can_stand(FEW, ""), False)
        self.assertIs(can_stand(FEW, "ab"), False)
        self.assertIs(can_stand(Book("ab", ("aba",)), "a"), False)
        self.assertIs(can_stand(Book("ab", ("aba",)), "b"), True)

    def test_long(self):
        self.assertIs(can_stand(FEW, "b" * 4000), True)
        self.assertIs(can_stand(FEW, "b" * 3999 + "a"), False)
        self.assertIs(can_stand(THIN, "b" + "a" * 399 + "b"), True)
        self.assertIs(can_stand(THIN, "b" + "a" * 3998 + "b"), True)
        self.assertIs(can_stand(THIN, "b" + "a" * 398 + "b"), False)
        self.assertIs(can_stand(ALIKE, "ab" * 2000), True)
        self.assertIs(can_stand(ALIKE, "a" * 190), False)

    def test_errors(self):
        for book in NO_BOOKS:
            for text in ["a", "c", 5]:
                with self.assertRaises(InvalidBook):
                    can_stand(book, text)
        for text in no_texts("ab"):
            with self.assertRaises(InvalidText):
                can_stand(FEW, text)


if __name__ == "__main__":
    unittest.main()
