"""[0.1], [0.4], [0.5], [0.7], [0.8] and stage 1: integers, letters, texts, words, their order."""

import unittest

from tests.samples import NO_LETTERS, NO_TUPLES, PAIRS, STRANGE, all_texts, nested, no_texts, no_words
from twowaycuts.base import names
from twowaycuts.base.names import in_order, is_integer, is_letters, is_text, is_word
from twowaycuts.errors import InvalidLetters, InvalidOperation, InvalidText

ALPHABET = "abcdefghijklmnopqrstuvwxyz"


class Constants(unittest.TestCase):
    def test_values(self):
        self.assertEqual((names.MAX_DIGITS, names.MAX_WORD, names.MAX_TEXT), (200, 400, 4000))


class Judges(unittest.TestCase):
    def test_example(self):
        told = [is_integer(True), is_integer(-3), is_letters("ba"), is_text("ab", ""), is_word("ab", ""),
                is_word("ab", "abba"), is_word("ab", "abc")]
        self.assertEqual(told, [False, True, False, True, False, True, False])

    def test_integers(self):
        for value in [0, 1, -1, 400, 10 ** 199, 10 ** 200 - 1, -(10 ** 200 - 1), 2 ** 64]:
            self.assertIs(is_integer(value), True)
        for value in [10 ** 200, -10 ** 200, 10 ** 200 + 1, 10 ** 300 - 1, -(10 ** 300 - 1), 10 ** 1000]:
            self.assertIs(is_integer(value), False)

    def test_no_integers(self):
        for value in [True, False, None, "", "1", (), (1,), [1], {}, {1: 1}, nested(1, 10), PAIRS]:
            self.assertIs(is_integer(value), False)

    def test_letters(self):
        for value in ["a", "z", "ab", "az", "yz", "abc", "amz", "xyz"]:
            self.assertIs(is_letters(value), True, value)
        for size in [1, 2, 3]:
            for value in all_texts("acz", size):
                right = 1 <= len(value) and list(value) == sorted(set(value))
                self.assertIs(is_letters(value), right, value)

    def test_no_letters(self):
        for value in NO_LETTERS + ["abcd", ALPHABET, "A", "Ab", "a`", "z{", "`", "{", "\u00e9", "a\n", "ab\n"]:
            self.assertIs(is_letters(value), False, value)

    def test_texts(self):
        for value in ["", "a", "b", "abba", "ab" * 2000, "b" * 4000]:
            self.assertIs(is_text("ab", value), True)
        for value in ["", "m" * 4000]:
            self.assertIs(is_text("m", value), True)
        self.assertIs(is_text("acz", "zaccaz"), True)
        for letters in ["a", "ab", "abc"]:
            for value in no_texts(letters):
                self.assertIs(is_text(letters, value), False, value)
        for value in ["ab" * 2000 + "a", "b" * 4001, "aba\n", "\nab", "ab ba", "aBa", "abAB", "acb", "c" * 4000,
                      "b" * 2000 + "c" + "b" * 1999]:
            self.assertIs(is_text("ab", value), False)
        self.assertIs(is_text("acz", "abz"), False)

    def test_words(self):
        for value in ["a", "b", "abba", "a" * 400, "ab" * 200]:
            self.assertIs(is_word("ab", value), True)
        for letters in ["a", "ab", "abc"]:
            for value in no_words(letters):
                self.assertIs(is_word(letters, value), False, value)
        for value in ["", "a" * 401, "ab" * 2000, "a" * 4001, "ab\n", "aBa", "c", "b" * 399 + "c"]:
            self.assertIs(is_word("ab", value), False)

    def test_only_letters_raise(self):
        for letters in NO_LETTERS:
            for value in ["", "a", 5]:
                with self.assertRaises(InvalidLetters):
                    is_text(letters, value)
                with self.assertRaises(InvalidLetters):
                    is_word(letters, value)


class Order(unittest.TestCase):
    def test_example(self):
        self.assertEqual(in_order("ab", ("b", "ab", "", "b", "aa")), ("", "b", "aa", "ab"))

    def test_length_first(self):
        self.assertEqual(in_order("ab", ("aaa", "b", "ba", "ab", "a")), ("a", "b", "ab", "ba", "aaa"))
        texts = all_texts("acz", 4)
        self.assertEqual(in_order("acz", tuple(reversed(texts))), tuple(texts))
        self.assertEqual(in_order("acz", tuple(sorted(texts)) + tuple(texts)), tuple(texts))

    def test_edges(self):
        self.assertEqual(in_order("ab", ()), ())
        self.assertEqual(in_order("ab", ("",)), ("",))
        self.assertEqual(in_order("a", ("a", "a", "a")), ("a",))

    def test_long_texts(self):
        texts = tuple("b" * many + "a" * (4000 - many) for many in range(400))
        self.assertEqual(in_order("ab", texts[::-1] + texts), texts)

    def test_errors(self):
        for letters in NO_LETTERS:
            for texts in [("a",), ("A",), 5]:
                with self.assertRaises(InvalidLetters):
                    in_order(letters, texts)
        for texts in NO_TUPLES + ["a", "ab", ["a", "b"]]:
            with self.assertRaises(InvalidOperation):
                in_order("ab", texts)
        for text in no_texts("ab"):
            for texts in [(text,), ("a", text), (text, "a", "b")]:
                with self.assertRaises(InvalidText):
                    in_order("ab", texts)

    def test_arguments_stay(self):
        wrong = nested(["a"], 4)
        for value in STRANGE + [wrong]:
            is_integer(value), is_letters(value), is_text("ab", value), is_word("ab", value)
        self.assertEqual(wrong, nested(["a"], 4))


if __name__ == "__main__":
    unittest.main()
