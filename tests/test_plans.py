"""[0.12] and stage 8: plans and their flaws."""

import unittest
from itertools import combinations, permutations

from tests.fullbooks import SMALL_FULL, is_full_plain, plain_count
from tests.refused import Refusing, no_numbers
from tests.samples import (ALIKE, NINE, NO_LETTERS, NO_PLANS, NO_TUPLES, PAIRS, PLAN, SPREAD, STRANGE, THIN, all_texts,
                           comparable, no_texts, no_words, numbered)
from twowaycuts.book.books import Book
from twowaycuts.errors import (InvalidLetters, InvalidNumber, InvalidOperation, InvalidPlan, InvalidText, InvalidWord,
                               TooMany)
from twowaycuts.plan.plans import MAX_DEGREE, Plan, first_flaw, is_flaw

NO_DEGREES = no_numbers(1, 400)
TALL = tuple(numbered(400, 9))


def small_plans():
    """All plans with few words, and others."""
    found = [Plan("ab", words, degree) for many in range(3) for words in combinations(all_texts("ab", 3)[1:], many)
             for degree in (1, 2, 3, 4)]
    found += [Plan("ab", words, degree) for words in combinations(all_texts("ab", 2)[1:], 3) for degree in (1, 2, 3)]
    found += [Plan("m", words, degree) for words in [(), ("m",), ("mm",), ("m", "mmm")] for degree in (1, 2, 3)]
    found += [Plan("abc", words, degree) for words in combinations(all_texts("abc", 2)[1:], 2) for degree in (1, 2, 3)]
    found += [Plan(book.letters, book.words, degree) for book in SMALL_FULL[::7] for degree in (1, 2, 3, 5, 8)]
    found += [Plan("ab", words, degree) for words in [("ab", "aaba"), ("aaba",), ("ab", "bab", "aaba"), ("a", "bab"),
                                                      ("aba", "babb", "aab"), ("ab", "ba", "aaba")]
              for degree in (2, 3, 4, 5)]
    return found


def flaws_brute(plan):
    """All flaws, by [0.15] and their forms."""
    clashes = [("clash", one, other) for at, one in enumerate(plan.words) for other in plan.words[at + 1:]
               if comparable(one, other)]
    if clashes:
        return clashes
    found = [("ways", word) for word in plan.words if plain_count(plan.words, word) >= plan.degree]
    return found + [("full",)] * is_full_plain(plan.letters, plan.words)


class Examples(unittest.TestCase):
    def test_first(self):
        plan = Plan("ab", ("ab",), 3)
        told = [plan.count("abab"), plan.count("bbbb"), plan.count(""), first_flaw(plan), first_flaw(plan.of_degree(2)),
                str(plan), len(plan.with_word("ab" * 20))]
        self.assertEqual(told, [3, 5, 1, None, ("ways", "ab"), "plan of 1 words, degree 3", 2])

    def test_second(self):
        told = [first_flaw(Plan("ab", ("b", "ab", "a"), 1)), first_flaw(Plan("ab", ("a", "b"), 5)),
                is_flaw(Plan("ab", ("a", "b"), 1), ("full",)), first_flaw(Plan("ab", ("a", "b"), 1))]
        self.assertEqual(told, [("clash", "a", "ab"), ("full",), True, ("ways", "a")])

    def test_third(self):
        told = [first_flaw(Plan("ab", ("ab", "aaba"), 4)), first_flaw(Plan("ab", ("aaba",), 4)),
                is_flaw(Plan("ab", ("ab", "ba"), 3), ("ways", "ab"))]
        self.assertEqual(told, [None, ("ways", "aaba"), False])


class Values(unittest.TestCase):
    def test_constant(self):
        self.assertEqual(MAX_DEGREE, 400)

    def test_words_in_any_order_and_twice(self):
        for row in permutations(("b", "ab", "aab", "ba")):
            plan = Plan("ab", row + row[:2], 7)
            self.assertEqual((plan.letters, plan.words, plan.degree), ("ab", ("b", "ab", "ba", "aab"), 7))
            self.assertEqual(plan, Plan("ab", ("aab", "ab", "b", "ba"), 7))
            self.assertEqual(len(plan), 4)

    def test_words_that_clash(self):
        plan = Plan("abc", ("a", "aa", "ba", "aba"), 1)
        self.assertEqual(plan.words, ("a", "aa", "ba", "aba"))

    def test_types(self):
        plan = Plan("ab", (), 400)
        self.assertEqual((type(plan.letters), type(plan.words), type(plan.degree)), (str, tuple, int))
        self.assertEqual((len(plan), plan.words, str(plan)), (0, (), "plan of 0 words, degree 400"))

    def test_400_words(self):
        for words in [TALL, TALL[::-1], TALL + TALL, ALIKE.words, SPREAD.words]:
            self.assertEqual(len(Plan("ab", words, 1)), 400)
        with self.assertRaises(TooMany) as caught:
            Plan("ab", TALL + ("a",), 1)
        self.assertEqual(caught.exception.limit, 400)
        # More values than that are fine, if some of them are equal.
        self.assertEqual(Plan("ab", ("ab",) * 900 + ("b",), 2).words, ("b", "ab"))

    def test_longest_words(self):
        plan = Plan("ab", ("a" * 400, "b" * 400), 400)
        self.assertEqual(plan.words, ("a" * 400, "b" * 400))
        self.assertEqual(plan.count("a" * 399), 400)
        self.assertEqual(plan.count("a" * 400), 400)
        self.assertEqual(plan.count("a" * 4000), 400)

    def test_equal(self):
        plans = [Plan("ab", ("ab",), 3), Plan("ab", ("ab",), 4), Plan("ab", ("ba",), 3), Plan("abc", ("ab",), 3),
                 Plan("ab", ("ab", "ba"), 3), Plan("ab", (), 3), Plan("ab", (), 1), Plan("a", (), 1), Plan("b", (), 1)]
        for at, one in enumerate(plans):
            for behind, other in enumerate(plans):
                self.assertIs(one == other, at == behind)
                self.assertIs(one != other, at != behind)
            self.assertTrue(one == Plan(one.letters, one.words, one.degree))
        for value in NO_PLANS + [object(), 1.5]:
            for plan in plans:
                self.assertIs(plan == value, False)
                self.assertIs(plan != value, True)
                self.assertIs(value == plan, False)

    def test_str(self):
        self.assertEqual(str(Plan("abc", ("a", "b", "aa"), 12)), "plan of 3 words, degree 12")

    def test_no_iteration(self):
        for call in [iter, list, tuple, lambda plan: "ab" in plan, lambda plan: [one for one in plan]]:
            with self.assertRaises(TypeError):
                call(PLAN)

    def test_nothing_can_change_a_plan(self):
        words = ("ab", "b")
        plan = Plan("ab", words, 3)
        for _ in range(2):
            plan.with_word("a"), plan.without_word("b"), plan.of_degree(9), plan.count("abab"), first_flaw(plan)
            self.assertEqual((plan.letters, plan.words, plan.degree), ("ab", ("b", "ab"), 3))
        for name in ["letters", "words", "degree"]:
            with self.assertRaises(AttributeError):
                setattr(plan, name, getattr(plan, name))
        self.assertEqual(words, ("ab", "b"))


class Counting(unittest.TestCase):
    def test_small_plans(self):
        for plan in small_plans()[::3]:
            for text in all_texts(plan.letters, 4):
                self.assertEqual(plan.count(text), plain_count(plan.words, text), (plan.words, text))

    def test_words_that_end_one_another(self):
        for words in [("a", "aa", "ba"), ("ab", "bab", "abab", "b"), ("aba", "ba", "a"), ("bb", "b", "abb")]:
            for text in all_texts("ab", 7):
                self.assertEqual(Plan("ab", words, 1).count(text), plain_count(words, text), (words, text))

    def test_empty(self):
        self.assertEqual(Plan("ab", (), 1).count(""), 1)
        self.assertEqual(Plan("ab", ("a",), 1).count(""), 1)
        self.assertEqual(Plan("ab", (), 1).count("abba"), 5)

    def test_large(self):
        self.assertEqual(Plan("ab", TALL, 1).count("ab" * 2000), 4001 - sum(
            1 for end in range(9, 4001) if ("ab" * 2000)[end - 9:end] in TALL))
        self.assertEqual(Plan("m", tuple("m" * size for size in range(1, 401)), 1).count("m" * 4000), 1)
        self.assertEqual(Plan("m", tuple("m" * size for size in range(2, 401)), 1).count("m" * 4000), 2)
        self.assertEqual(Plan("ab", SPREAD.words, 1).count("".join(SPREAD.words[:10])), 4001 - 10)
        self.assertEqual(Plan("ab", ALIKE.words, 1).count("".join(ALIKE.words[5:15])), 4001 - 10)


class Others(unittest.TestCase):
    def test_with_word(self):
        self.assertEqual(PLAN.with_word("a"), Plan("ab", ("a", "ab"), 3))
        self.assertEqual(PLAN.with_word("b" * 400).words, ("ab", "b" * 400))
        self.assertEqual(Plan("ab", TALL[:399], 5).with_word("b" * 9), Plan("ab", TALL[:399] + ("b" * 9,), 5))
        with self.assertRaises(InvalidOperation):
            PLAN.with_word("ab")
        with self.assertRaises(TooMany) as caught:
            Plan("ab", TALL, 5).with_word("a")
        self.assertEqual(caught.exception.limit, 400)
        # A word that is there is told ahead of too many words.
        with self.assertRaises(InvalidOperation):
            Plan("ab", TALL, 5).with_word(TALL[399])

    def test_without_word(self):
        self.assertEqual(PLAN.without_word("ab"), Plan("ab", (), 3))
        self.assertEqual(Plan("ab", ("b", "ab", "a"), 9).without_word("b").words, ("a", "ab"))
        for word in ["a", "abb", "ba"]:
            with self.assertRaises(InvalidOperation):
                PLAN.without_word(word)

    def test_of_degree(self):
        self.assertEqual(PLAN.of_degree(1), Plan("ab", ("ab",), 1))
        self.assertEqual(PLAN.of_degree(400).degree, 400)
        self.assertEqual(PLAN.of_degree(3), PLAN)
        self.assertEqual(PLAN.degree, 3)


class Flaws(unittest.TestCase):
    def test_small_plans(self):
        values = [("clash", one, other) for one in all_texts("ab", 2) for other in all_texts("ab", 3)]
        values += [("ways", word) for word in all_texts("ab", 3) + ["aaba", "m"]] + [("full",)]
        for at, plan in enumerate(small_plans()):
            found = flaws_brute(plan)
            self.assertEqual(first_flaw(plan), found[0] if found else None, (plan.words, plan.degree))
            for value in found:
                self.assertIs(is_flaw(plan, value), True, (plan.words, plan.degree, value))
            if at % 9 == 0:
                for value in values:
                    self.assertIs(is_flaw(plan, value), value in found, (plan.words, plan.degree, value))

    def test_first_two_words_that_clash(self):
        self.assertEqual(first_flaw(Plan("ab", ("bab", "a", "ba"), 9)), ("clash", "a", "ba"))
        self.assertEqual(first_flaw(Plan("ab", ("abb", "ba", "b", "aba", "bab"), 9)), ("clash", "b", "ba"))
        self.assertEqual(first_flaw(Plan("ab", ("ab", "bb", "abab", "aabab", "bbb"), 9)), ("clash", "ab", "abab"))

    def test_which_comes_first(self):
        # A clash, and words with enough ways.
        self.assertEqual(first_flaw(Plan("ab", ("aa", "bb", "bba"), 1)), ("clash", "bb", "bba"))
        # Words with enough ways, in order, and a full set.
        self.assertEqual(first_flaw(Plan("ab", ("aa", "bb", "ab", "ba"), 2)), ("ways", "aa"))
        self.assertEqual(first_flaw(Plan("ab", PAIRS.words, 3)), ("full",))
        # M of "ab" is 2, that of the longer words 3.
        self.assertEqual(first_flaw(Plan("ab", NINE.words, 3)), ("ways", "aaa"))
        self.assertEqual(first_flaw(Plan("ab", NINE.words, 4)), ("full",))
        self.assertEqual(first_flaw(Plan("ab", NINE.words, 2)), ("ways", "ab"))
        self.assertEqual([value for value in [("full",), ("ways", "bbb"), ("ways", "ab"), ("clash", "ab", "aaba")]
                          if is_flaw(Plan("ab", NINE.words, 3), value)], [("full",), ("ways", "bbb")])

    def test_clashes_hide_the_others(self):
        plan = Plan("ab", ("a", "b", "ab"), 1)
        self.assertIs(is_flaw(plan, ("clash", "b", "ab")), True)
        for value in [("ways", "a"), ("ways", "ab"), ("full",), ("clash", "ab", "b"), ("clash", "a", "b"),
                      ("clash", "a", "a"), ("clash", "a", "aa"), ("clash", "a"), ("clash",), ("clash", "a", "ab", ""), ("ways", "a", "ab"),
                      ("", "a", "ab"), ("full", "a", "ab"), ("clash", "", "a"), ("clash", "b", "bb")]:
            self.assertIs(is_flaw(plan, value), False, value)

    def test_no_words(self):
        for degree in [1, 2, 400]:
            self.assertIsNone(first_flaw(Plan("ab", (), degree)))
            self.assertIs(is_flaw(Plan("ab", (), degree), ("full",)), False)

    def test_no_values(self):
        values = STRANGE + [["full"], "full", ("full", ()), (("full",),), ("full", "a"), ("ways", ("ab",)), ("ways",),
                            ("ways", "ab", "ab"), ("ways", None), ("ways", PLAN), (PLAN,), (PLAN, "ab"), ("", "ab"),
                            ("clash", "ab", None), ("clash", ["ab"], "ab"), ("full", 1), {"full": 1}, (True, "ab"),
                            ("ways", NINE), ("ways", "ab\n"), ("ways", "a" * 4000), ("clash", NINE, PLAN), ()]
        for plan in [PLAN, PLAN.of_degree(2), Plan("ab", ("a", "b"), 5), Plan("ab", ("a", "ab"), 1)]:
            for value in values:
                self.assertIs(is_flaw(plan, value), False, value)

    def test_large(self):
        self.assertEqual(first_flaw(Plan("ab", SPREAD.words, 400)), ("ways", SPREAD[0]))
        self.assertEqual(first_flaw(Plan("ab", ALIKE.words, 400)), ("ways", ALIKE[0]))
        self.assertEqual(first_flaw(Plan("ab", THIN.words, 400)), None)
        self.assertEqual(first_flaw(Plan("ab", THIN.words, 3)), None)
        self.assertEqual(first_flaw(Plan("ab", THIN.words, 2)), ("ways", "bb"))
        self.assertEqual(first_flaw(Plan("ab", TALL[1:] + (TALL[0] + "a",), 400)), None)
        self.assertEqual(first_flaw(Plan("ab", Book.uniform("ab", 8).words, 9)), ("full",))
        for part in [SPREAD[399][:30], SPREAD[399][-30:]]:
            self.assertEqual(first_flaw(Plan("ab", SPREAD.words[1:] + (part,), 400)), ("clash", part, SPREAD[399]))
            self.assertEqual(first_flaw(Plan("ab", SPREAD.words[:399] + (part,), 400)), ("ways", SPREAD[0]))
        self.assertIs(is_flaw(Plan("ab", SPREAD.words, 400), ("ways", SPREAD[399])), True)


class Errors(unittest.TestCase, Refusing):
    def test_wrong_arguments(self):
        words = NO_TUPLES + [["ab"], "ab", {"ab": 1}, Book("ab", ("ab",))]
        self.check_wrong(Plan, ("ab", NO_LETTERS, InvalidLetters), (("ab",), words, InvalidOperation),
                         (3, NO_DEGREES, InvalidNumber))
        values = [("ab", value) for value in no_words("ab")]
        self.check_wrong(Plan, ("ab", NO_LETTERS, InvalidLetters), (("ab",), values, InvalidWord),
                         (3, NO_DEGREES, InvalidNumber))
        self.check_wrong(PLAN.count, ("ab", no_texts("ab"), InvalidText))
        self.check_wrong(PLAN.with_word, ("ba", no_words("ab"), InvalidWord))
        self.check_wrong(PLAN.without_word, ("ab", no_words("ab"), InvalidWord))
        self.check_wrong(PLAN.of_degree, (3, NO_DEGREES, InvalidNumber))
        self.check_wrong(first_flaw, (PLAN, NO_PLANS, InvalidPlan))
        self.check_wrong(lambda plan: is_flaw(plan, ("full",)), (PLAN, NO_PLANS, InvalidPlan))
        self.check_wrong(lambda plan: is_flaw(plan, None), (PLAN, NO_PLANS, InvalidPlan))

    def test_too_many_words_come_last(self):
        many = TALL + ("a",)
        self.check_error(Plan, ("ab", many, 1), TooMany, {"limit": 400})
        self.check_error(Plan, ("ba", many, 1), InvalidLetters)
        self.check_error(Plan, ("ab", many + ("",), 1), InvalidWord)
        self.check_error(Plan, ("ab", many + ("c",), 1), InvalidWord)
        self.check_error(Plan, ("ab", list(many), 1), InvalidOperation)
        for value in NO_DEGREES:
            self.check_error(Plan, ("ab", many, value), InvalidNumber, {"value": value})

    def test_degrees(self):
        for degree in [1, 2, 399, 400]:
            self.assertEqual(Plan("ab", (), degree).degree, degree)
        for degree in [0, 401, -1, True, False, 10 ** 200]:
            self.check_error(Plan, ("ab", (), degree), InvalidNumber, {"value": degree})


if __name__ == "__main__":
    unittest.main()
