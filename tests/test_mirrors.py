"""[19.1] to [19.3] and stage 19: mirror rows."""

import random
import unittest

from tests.mirrored import GOLD, ROWS, SOME_ROWS, long_start, plain_close, plain_guide, plain_standing
from tests.refused import Refusing, error_of, no_numbers
from tests.samples import NO_LETTERS, NO_ROWS, STRANGE, all_texts, no_texts
from twowaycuts.errors import InvalidLetters, InvalidNumber, InvalidOperation, InvalidText
from twowaycuts.row.mirrors import (MAX_GUIDE, MAX_STANDING, MirrorRow, fork, mirror_close, returns_to, standing)

# Guides with long heads, rows that grow slowly, letters that come late.
LONG_ROWS = [MirrorRow("ab", "a" * 20, "a" * 19 + "b"), MirrorRow("ab", "ab" * 5, "ba" * 10),
             MirrorRow("abc", "a" * 10, "a" * 9 + "bc"), MirrorRow("abc", "aaabbbb", "aaac" + "b"),
             MirrorRow("ab", "b" * 20, "ab"), MirrorRow("abc", "c" * 20, "c" * 18 + "ba"),
             MirrorRow("ab", "abababab", "a" * 5 + "b" * 15)]


def plain_returns(row, text, many=3000):
    """The first returns to a text, looked for in a long start of the row."""
    whole = long_start(row, many)
    found = [at for at in range(len(whole)) if whole.startswith(text, at)]
    return tuple(sorted({whole[one:other] for one, other in zip(found, found[1:])}, key=lambda one: (len(one), one)))


class Examples(unittest.TestCase):
    def test_first(self):
        told = [mirror_close("ab", "aab"), mirror_close("ab", ""), GOLD.start(12), GOLD.guide(5), "babab" in GOLD,
                "ababa" in GOLD, GOLD == MirrorRow("ab", "ab", "abab"), str(GOLD)]
        self.assertEqual(told, ["aabaa", "", "abaababaabaa", "ababa", False, True, True, "mirror row over ab"])

    def test_second(self):
        told = [standing(GOLD, 2), standing(GOLD, 4), fork(GOLD, 4), returns_to(GOLD, "aa"), returns_to(GOLD, ""),
                MirrorRow("abc", "b", "abc").start(9), len(standing(MirrorRow("abc", "", "abc"), 5))]
        self.assertEqual(told, [("aa", "ab", "ba"), ("aaba", "abaa", "abab", "baab", "baba"), "aaba", ("aab", "aabab"),
                                ("a", "b"), "babbabcba", 11])

    def test_constants(self):
        self.assertEqual((MAX_GUIDE, MAX_STANDING), (20, 60))


class Close(unittest.TestCase, Refusing):
    def test_all_texts_that_begin_so(self):
        for letters, size in (("a", 5), ("ab", 4), ("abc", 3)):
            texts = all_texts(letters, 2 * size)
            for text in all_texts(letters, size):
                wanted = next(one for one in texts if one.startswith(text) and one == one[::-1])
                self.assertEqual(mirror_close(letters, text), wanted)

    def test_long_texts(self):
        chance = random.Random(19)
        for size in (10, 50, 400, 4000):
            text = "".join(chance.choice("abc") for _ in range(size))
            self.assertEqual(mirror_close("abc", text), plain_close(text))
            self.assertEqual(mirror_close("abc", text[:size // 2] + text[:size // 2][::-1]),
                             text[:size // 2] + text[:size // 2][::-1])
        self.assertEqual(mirror_close("ab", "a" * 3999 + "b"), "a" * 3999 + "b" + "a" * 3999)
        self.assertEqual(mirror_close("ab", "a" * 4000), "a" * 4000)
        self.assertEqual(mirror_close("ab", "b" + "a" * 3999), "b" + "a" * 3999 + "b")

    def test_wrong_arguments(self):
        self.check_wrong(mirror_close, ("ab", NO_LETTERS, InvalidLetters), ("ab", no_texts("ab"), InvalidText))


class Rows(unittest.TestCase, Refusing):
    def test_starts(self):
        for row in SOME_ROWS + LONG_ROWS:
            whole = long_start(row, 4000)
            for size in (0, 1, 2, 3, 7, 40, 399, 3999, 4000):
                self.assertEqual(row.start(size), whole[:size])
            for size in (0, 1, 5, 19, 20, 21, 39, 400):
                self.assertEqual(row.guide(size), plain_guide(row, size))

    def test_sizes(self):
        for row in (GOLD, ROWS["a"][0]):
            self.assertEqual((row.guide(0), row.start(0)), ("", ""))
            self.assertEqual((len(row.guide(400)), len(row.start(4000))), (400, 4000))
            self.check_wrong(row.guide, (3, no_numbers(0, 400), InvalidNumber))
            self.check_wrong(row.start, (3, no_numbers(0, 4000), InvalidNumber))

    def test_what_stands(self):
        for row in SOME_ROWS:
            for size in range(7):
                found = plain_standing(row, size)
                for text in all_texts(row.letters, size):
                    if len(text) == size:
                        self.assertIs(text in row, text in found, (row.guide(9), text))
        for row in SOME_ROWS + LONG_ROWS[:5]:
            whole = long_start(row, 9000)
            for at, size in ((0, 4000), (4000, 4000), (999, 1700), (1234, 61), (8000, 60)):
                text = whole[at:at + size]
                self.assertIs(text in row, True)
                self.assertIs(text[::-1] in row, True)
                if len(row.letters) > 1:
                    other = row.letters[0] if text[30] != row.letters[0] else row.letters[1]
                    bent = text[:30] + other + text[31:]
                    self.assertIs(bent in row, bent in whole)
        self.assertIs("c" in MirrorRow("abc", "ab" * 10, "ab" * 9 + "bc"), True)
        self.assertIs("cc" in MirrorRow("abc", "ab" * 10, "ab" * 9 + "bc"), False)

    def test_in_for_every_value(self):
        for row in (GOLD, ROWS["abc"][0], ROWS["a"][1]):
            for value in no_texts(row.letters) + STRANGE + ["a" * 4001, ("ab",), ["a"], {"a": 1}]:
                self.assertIs(value in row, False)
            self.assertIs("" in row, True)
        self.assertIs("a" * 4000 in ROWS["a"][0], True)
        self.assertIs("a" * 4000 in GOLD, False)
        self.assertIs("c" in GOLD, False)

    def test_equal(self):
        same = [MirrorRow("ab", "", "ab"), MirrorRow("ab", "ab", "abab"), MirrorRow("ab", "a", "ba"),
                MirrorRow("ab", "ab" * 10, "ab" * 10), MirrorRow("ab", "aba", "ba" * 9), MirrorRow("ab", "", "ab" * 7)]
        others = [MirrorRow("ab", "", "ba"), MirrorRow("ab", "b", "ab"), MirrorRow("abc", "", "abc"),
                  MirrorRow("ab", "ab" * 10, "ba" * 10), MirrorRow("ab", "ab" * 10, "ab" * 9 + "a"),
                  MirrorRow("ab", "", "ab" * 9 + "a"), MirrorRow("bz", "", "bz"), MirrorRow("a", "", "a")]
        for one in same:
            for other in same:
                self.assertTrue(one == other and not one != other)
            for other in others:
                self.assertTrue(one != other and not one == other and other != one)
            for value in STRANGE + ["ab", ("ab", "", "ab")]:
                self.assertFalse(one == value)
                self.assertTrue(one != value)
        for one in [MirrorRow("ab", head, again) for head in ("", "a", "ba") for again in ("ab", "ba", "aab", "abaaba", "aba")]:
            for other in [MirrorRow("ab", head, again) for head in ("", "b", "ab") for again in ("ab", "aba", "baa", "ba")]:
                self.assertIs(one == other, plain_guide(one, 400) == plain_guide(other, 400))
                self.assertIs(one == other, long_start(one, 200)[:200] == long_start(other, 200)[:200])

    def test_nearly_equal(self):
        # Rounds of 19 and 20 letters, one of which is the other one as long as can be.
        one = MirrorRow("ab", "", "a" * 18 + "b")
        other = MirrorRow("ab", "", "a" * 18 + "ba")
        self.assertFalse(one == other)
        self.assertTrue(one == MirrorRow("ab", "a" * 18, "b" + "a" * 18))
        self.assertFalse(MirrorRow("ab", "a" * 20, "a" * 19 + "b") == MirrorRow("ab", "a" * 20, "a" * 18 + "ba"))

    def test_told(self):
        row = MirrorRow("abc", "ccab", "bacc")
        self.assertEqual((row.letters, row.head, row.again, str(row)), ("abc", "ccab", "bacc", "mirror row over abc"))
        for name in ("letters", "head", "again"):
            with self.assertRaises(AttributeError):
                setattr(row, name, "a")
        for call in (iter, list, tuple, len, lambda one: [*one], lambda one: one[0], sorted):
            with self.assertRaises(TypeError):
                call(row)

    def test_wrong_rows(self):
        self.check_wrong(MirrorRow, ("ab", NO_LETTERS, InvalidLetters), ("a", no_texts("ab"), InvalidText),
                         ("ab", no_texts("ab"), InvalidText))
        for head, again in (("", ""), ("", "a"), ("ab", "b"), ("", "b" * 20), ("a" * 21, "ab"), ("", "ab" * 10 + "a"),
                            ("a" * 21, "b" * 21), ("a" * 4000, "ab"), ("", "ab" * 2000), ("a" * 21, "")):
            self.check_error(MirrorRow, ("ab", head, again), InvalidOperation)
        self.check_error(MirrorRow, ("abc", "c", "ab"), InvalidOperation)
        self.check_error(MirrorRow, ("ab", "a" * 21, "abc"), InvalidText)
        self.check_error(MirrorRow, ("ab", "c", "a"), InvalidText)
        self.check_error(MirrorRow, ("ab", "", "a" * 4001), InvalidText)
        self.assertIsNone(error_of(MirrorRow, ("ab", "a" * 20, "a" * 19 + "b")))
        self.assertIsNone(error_of(MirrorRow, ("abc", "", "cba")))


class Standing(unittest.TestCase, Refusing):
    def test_by_a_long_start(self):
        for row in SOME_ROWS + LONG_ROWS[:3]:
            for size in (0, 1, 2, 3, 5, 8, 13, 20):
                found = standing(row, size)
                self.assertEqual(found, plain_standing(row, size))
                self.assertEqual(len(found), (len(row.letters) - 1) * size + 1)
                self.assertEqual(found, tuple(sorted(text[::-1] for text in found)))

    def test_great_sizes(self):
        for row in SOME_ROWS + LONG_ROWS:
            found = standing(row, 60)
            self.assertEqual((len(found), found), ((len(row.letters) - 1) * 60 + 1, tuple(sorted(set(found)))))
            whole = long_start(row, 4000)
            self.assertLessEqual({whole[at:at + 60] for at in range(3940)}, set(found))
            self.assertEqual(standing(row, 59), tuple(sorted({text[1:] for text in found})))

    def test_forks(self):
        for row in SOME_ROWS + LONG_ROWS[:4]:
            for size in (0, 1, 2, 3, 5, 8, 30, 59):
                found, longer = standing(row, size), standing(row, size + 1)
                one = fork(row, size)
                self.assertEqual(one, long_start(row, size)[:size][::-1])
                for text in found:
                    many = sum(text + letter in longer for letter in row.letters)
                    self.assertEqual(many, len(row.letters) if text == one else 1)
            self.assertEqual(fork(row, 4000), row.start(4000)[::-1])

    def test_wrong_arguments(self):
        self.check_wrong(standing, (GOLD, NO_ROWS, InvalidOperation), (3, no_numbers(0, 60), InvalidNumber))
        self.check_wrong(fork, (GOLD, NO_ROWS, InvalidOperation), (3, no_numbers(0, 4000), InvalidNumber))


class Returns(unittest.TestCase, Refusing):
    def test_by_a_long_start(self):
        for row in SOME_ROWS:
            for size in range(7):
                for text in standing(row, size):
                    told = returns_to(row, text)
                    self.assertEqual(told, plain_returns(row, text), (row.guide(9), text))
                    self.assertEqual(len(told), len(row.letters))

    def test_long_texts(self):
        for row in SOME_ROWS + LONG_ROWS:
            for text in standing(row, 60)[::9]:
                told = returns_to(row, text)
                self.assertEqual(len(set(told)), len(row.letters))
                self.assertEqual(told, tuple(sorted(told, key=lambda one: (len(one), one))))
                for one in told:
                    whole = one + text
                    self.assertEqual([at for at in range(len(one) + 1) if whole.startswith(text, at)], [0, len(one)])
                    self.assertTrue(len(whole) > 4000 or whole in row)

    def test_long_heads(self):
        for row in LONG_ROWS:
            for size in (0, 1, 2, 5):
                for text in standing(row, size):
                    told = returns_to(row, text)
                    if max(len(one) for one in told) < 400:
                        self.assertEqual(told, plain_returns(row, text, 9000))
        # A letter that comes late makes long returns.
        row = MirrorRow("abc", "abababab", "aabc")
        told = returns_to(row, "c")
        self.assertEqual((len(told), told), (3, plain_returns(row, "c", 40000)))

    def test_wrong_arguments(self):
        self.check_wrong(returns_to, (GOLD, NO_ROWS, InvalidOperation), ("ab", no_texts("ab"), InvalidText))
        for text in ("bb", "babab", "b" * 60, GOLD.start(61), "a" * 61, GOLD.start(4000)):
            self.check_error(returns_to, (GOLD, text), InvalidOperation)
        self.assertIsNone(error_of(returns_to, (GOLD, GOLD.start(60))))


if __name__ == "__main__":
    unittest.main()
