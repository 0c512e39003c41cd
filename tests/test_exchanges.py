"""[11.1], [11.2] and stage 11: words exchanged."""

import random
import unittest

from tests.fullbooks import (FULL, GREAT_FULL, SMALL_FULL, is_full_plain, plain_can_exchange, plain_count, plain_degree,
                             plain_exchange, plain_free, plain_inner, set_in_order)
from tests.refused import Refusing
from tests.samples import ALIKE, FEW, NINE, NO_BOOKS, NO_TUPLES, PAIRS, SPREAD, THIN, all_texts, no_texts, numbered
from twowaycuts.book.books import Book
from twowaycuts.book.full import first_free
from twowaycuts.errors import InvalidBook, InvalidOperation, InvalidText, NotFull, TooMany
from twowaycuts.full.exchanges import can_exchange, exchange, exchange_all, exchangeable, worn

THREE = Book.uniform("ab", 3)
EIGHT = Book.uniform("ab", 8)


def plain_worn(book, text, other):
    """The indices of [11.2], by trying all."""
    ahead = [word[:len(word) - len(text)] for word in book.words if word.endswith(text)]
    behind = [word[len(text):] for word in book.words if word.startswith(text)]
    found = []
    for index in range(len(other) - len(text) + 1):
        left, right = other[:index], other[index + len(text):]
        if other[index:index + len(text)] == text and any(one != left and one.endswith(left) for one in ahead) \
                and any(one != right and one.startswith(right) for one in behind):
            found.append(index)
    return tuple(found)


def beginnings(book):
    """All texts with which words begin, the empty one and the words among them."""
    return set_in_order(word[:at] for word in book.words for at in range(len(word) + 1))


class Examples(unittest.TestCase, Refusing):
    def test_first(self):
        told = [exchangeable(THREE), exchange(THREE, "ab") == NINE, can_exchange(NINE, "ba"), exchangeable(NINE),
                can_exchange(PAIRS, "")]
        self.assertEqual(told, [("ab", "ba"), True, False, (), False])

    def test_second(self):
        told = [worn(THREE, "ab", "ab"), worn(THREE, "ab", "abab"), exchange_all(PAIRS, ()) == PAIRS,
                len(exchange_all(Book.uniform("ab", 4), ("abb", "aab")))]
        self.assertEqual(told, [(0,), (), True, 19])

    def test_refused(self):
        self.check_error(exchange, (PAIRS, "a"), InvalidOperation)


class Exchanges(unittest.TestCase, Refusing):
    def test_which_texts(self):
        for book in SMALL_FULL:
            found = []
            for text in set_in_order(list(beginnings(book)) + all_texts(book.letters, 4)):
                wanted = plain_can_exchange(book, text)
                self.assertIs(can_exchange(book, text), wanted, (book.words, text))
                found += [text] * wanted
            self.assertEqual(exchangeable(book), tuple(found))

    def test_which_texts_of_great_books(self):
        for book in GREAT_FULL:
            texts = beginnings(book)
            self.assertEqual(exchangeable(book), tuple(text for text in texts if plain_can_exchange(book, text)))
            for text in texts[::17]:
                self.assertIs(can_exchange(book, text), plain_can_exchange(book, text))

    def test_the_exchanged_book(self):
        for book in SMALL_FULL + GREAT_FULL[::2]:
            texts = [text for text in beginnings(book) if plain_can_exchange(book, text)]
            for text in texts[:12] + texts[-3:]:
                words = set_in_order(plain_exchange(book, text))
                if len(words) > 400:
                    self.check_error(exchange, (book, text), TooMany, {"limit": 400})
                    self.check_error(exchange_all, (book, (text,)), TooMany, {"limit": 400})
                    continue
                told = exchange(book, text)
                self.assertEqual(told, Book(book.letters, words))
                self.assertTrue(is_full_plain(book.letters, words))
                self.assertEqual(plain_degree(told), plain_degree(book))
                self.assertTrue(text in told and plain_inner(told, text))
                self.assertEqual(exchange_all(book, (text,)), told)

    def test_the_others_are_refused(self):
        for book in [PAIRS, NINE, THREE, Book.uniform("abc", 2), Book("ab", ("a", "b")), Book("m", ("mmm",))]:
            for text in all_texts(book.letters, 5 if book.letters == "ab" else 3):
                if not plain_can_exchange(book, text):
                    for call, arguments in [(exchange, (book, text)), (worn, (book, text, "")),
                                            (exchange_all, (book, (text,)))]:
                        self.check_error(call, arguments, InvalidOperation)

    def test_empty_and_long_texts(self):
        for book in [PAIRS, NINE, EIGHT, Book("ab", ("a", "b")), Book("m", ("m",)), Book("m", ("m" * 400,))]:
            for text in ["", book.letters[0] * 4000, book.letters * 401, book.words[-1] + book.words[0]]:
                self.assertIs(can_exchange(book, text), False)
                self.check_error(exchange, (book, text), InvalidOperation)
        self.assertEqual(exchangeable(Book("m", ("m" * 400,))), ())

    def test_too_many(self):
        self.assertEqual([len(exchange(EIGHT, text)) for text in ("aaaabbb", "aaabbb", "aaabb")], [257, 265, 305])
        book = exchange_all(EIGHT, ("aaabb", "ababb"))
        self.assertEqual(len(book), 354)
        self.check_error(exchange, (book, "abbbb"), TooMany, {"limit": 400})
        # 400 words are not too many, 401 are.
        book = exchange_all(EIGHT, tuple(numbered(34, 7)[1:]) + ("baabaab",))
        self.assertEqual(len(book), 400)
        more = [text for text in exchangeable(book) if len(plain_exchange(book, text)) == 401]
        self.check_error(exchange, (book, more[0]), TooMany, {"limit": 400})
        self.check_error(exchange_all, (book, (more[0],)), TooMany, {"limit": 400})


class Worn(unittest.TestCase):
    def test_all_texts(self):
        for book in SMALL_FULL[::4] + [THREE, Book.uniform("ab", 4), Book.uniform("abc", 3)]:
            longest = 7 if len(book.letters) == 2 else 5
            for text in exchangeable(book)[:4]:
                words = plain_exchange(book, text)
                for other in all_texts(book.letters, longest):
                    told = worn(book, text, other)
                    self.assertEqual(told, plain_worn(book, text, other))
                    # L in the exchanged book is less by the number of the indices.
                    self.assertEqual(plain_count(words, other), plain_count(book.words, other) - len(told))

    def test_great_books(self):
        for book in GREAT_FULL[::3]:
            for text in exchangeable(book)[:3]:
                for other in [text, text * 2, text + book.words[0], book.words[-1], book.words[-1][:-1], "",
                              book.words[0][1:] + text + book.words[5][:-1]]:
                    self.assertEqual(worn(book, text, other), plain_worn(book, text, other))

    def test_several(self):
        # The text stands twice, one over the other, and is worn at both places.
        book = Book.uniform("ab", 7)
        for other, told in [("abab", (0,)), ("ababab", (0, 2)), ("abababab", (2,)), ("bababab", (1,)), ("babab", (1,)),
                            ("aba", ()), ("bbababab", (2,)), ("abababbb", (2,)), ("ababbbb", ()), ("", ())]:
            self.assertEqual(worn(book, "abab", other), told)

    def test_long(self):
        self.assertEqual(worn(EIGHT, "ababb", "ababb" * 800), ())
        self.assertEqual(worn(EIGHT, "ababb", "a" * 4000), ())
        self.assertEqual(worn(EIGHT, "aaaaaab", ""), ())


class Rows(unittest.TestCase, Refusing):
    def test_rows(self):
        chance = random.Random(3)
        for book in [book for book in FULL if exchangeable(book)][::5]:
            texts, one = [], book
            for _ in range(4):
                found = [text for text in exchangeable(one) if len(plain_exchange(one, text)) <= 400]
                if found:
                    texts.append(chance.choice(found))
                    one = Book(book.letters, tuple(plain_exchange(one, texts[-1])))
                self.assertEqual(exchange_all(book, tuple(texts)), one)

    def test_no_texts(self):
        for book in [PAIRS, NINE, Book("m", ("m" * 9,))]:
            self.assertEqual(exchange_all(book, ()), book)

    def test_first_error(self):
        # The second text cannot be exchanged any more; a third one would make too many words.
        four = Book.uniform("ab", 4)
        self.check_error(exchange_all, (THREE, ("ab", "ba")), InvalidOperation)
        self.check_error(exchange_all, (THREE, ("ab", "ab")), InvalidOperation)
        self.assertEqual(exchange_all(four, ("abb", "aab")), exchange(exchange(four, "abb"), "aab"))
        many = ("aaabb", "ababb", "abbbb")
        self.check_error(exchange_all, (EIGHT, many), TooMany, {"limit": 400})
        self.check_error(exchange_all, (EIGHT, many + ("",)), TooMany, {"limit": 400})
        self.check_error(exchange_all, (EIGHT, many[:2] + ("",) + many[2:]), InvalidOperation)
        self.check_error(exchange_all, (EIGHT, ("",) + many), InvalidOperation)
        self.check_error(exchange_all, (EIGHT, ("abab",)), InvalidOperation)

    def test_wrong_texts_come_ahead(self):
        self.check_error(exchange_all, (EIGHT, ("ab", "c")), InvalidText)
        self.check_error(exchange_all, (EIGHT, ("", 5)), InvalidText)
        self.check_error(exchange_all, (FEW, ("ab", None)), InvalidText)
        self.check_error(exchange_all, (FEW, ["ab"]), InvalidOperation)
        self.check_error(exchange_all, (FEW, ("a",)), NotFull, {"text": "aa"})
        self.check_error(exchange_all, (FEW, ()), NotFull, {"text": "aa"})


class Errors(unittest.TestCase, Refusing):
    def test_wrong_arguments(self):
        book = (THREE, NO_BOOKS, InvalidBook)
        text = ("ab", no_texts("ab"), InvalidText)
        self.check_wrong(can_exchange, book, text)
        self.check_wrong(exchange, book, text)
        self.check_wrong(exchangeable, book)
        self.check_wrong(worn, book, text, ("abab", no_texts("ab"), InvalidText))
        self.check_wrong(exchange_all, book, (("ab",), NO_TUPLES + [["ab"], "ab", {"ab": 1}], InvalidOperation))
        self.check_wrong(exchange_all, book, (("ab",), [("ab", value) for value in no_texts("ab")], InvalidText))

    def test_not_full(self):
        for book in [FEW, NINE.without_word("ab"), Book("ab", ()), Book("ab", ("a",)), THIN, ALIKE, SPREAD]:
            text = plain_free(book) if book not in (THIN, ALIKE, SPREAD) else first_free(book)
            for call, arguments in [(can_exchange, (book, "ab")), (exchange, (book, "a")), (exchangeable, (book,)),
                                    (exchange, (book, "")), (worn, (book, "", "")), (worn, (book, "ab", "ab")),
                                    (exchange_all, (book, ("ab",))), (exchange_all, (book, ("",)))]:
                self.check_error(call, arguments, NotFull, {"text": text})

    def test_not_full_comes_behind_wrong_texts(self):
        for call, arguments in [(can_exchange, (FEW, "c")), (exchange, (FEW, 5)), (worn, (FEW, "", "c")),
                                (worn, (FEW, "a" * 4001, "")), (worn, (FEW, "ab", None))]:
            self.check_error(call, arguments, InvalidText)

    def test_nothing_changes(self):
        book = Book("ab", THREE.words)
        for _ in range(2):
            self.assertEqual((exchange(book, "ab"), exchangeable(book), worn(book, "ab", "ab")),
                             (NINE, ("ab", "ba"), (0,)))
        self.assertEqual(book, THREE)


if __name__ == "__main__":
    unittest.main()
