"""[0.15], [0.16] and stage 9: rings, and books of plans."""

import random
import unittest
from functools import lru_cache
from itertools import combinations
from unittest.mock import patch

from tests.fullbooks import FULL, SMALL_FULL, is_full_plain, plain_count, plain_degree, plain_inner, set_in_order
from tests.refused import Refusing
from tests.samples import (ALIKE, FEW, NINE, NO_PLANS, PAIRS, PLAN, SPREAD, STRANGE, THIN, all_texts, comparable,
                           nested, numbered, spread)
from tests.test_plans import flaws_brute
from twowaycuts.book.books import Book
from twowaycuts.book.full import is_full
from twowaycuts.errors import InvalidOperation, InvalidPlan, TooMany
from twowaycuts.full.inner import degree, inner_words
from twowaycuts.plan.outcomes import book_of, find_ring, is_paper, is_ring, outcome, paper
from twowaycuts.plan.plans import Plan, first_flaw

RINGS = [Plan("ab", ("ab", "ba"), 3), Plan("ab", ("a",), 2), Plan("abc", ("ab", "bc", "ca"), 3), Plan("ab", ("b",), 7),
         Plan("ab", ("aab", "aba", "baa"), 4), Plan("ab", ("bb", "aab", "aba", "baa"), 5)]


def plain_book(plan, longest=14):
    """The words of the book of a plan without a flaw, by [0.16], or None if texts with M below the degree grow on."""
    if plan.degree == 1:
        return tuple(plan.letters)
    told = {"": 1}
    level = [""]
    while level:
        texts, level = [text + letter for text in level for letter in plan.letters], []
        for text in texts:
            told[text] = told[text[:-1]] + (not any(text.endswith(word) for word in plan.words))
            if told[text] < plan.degree:
                level.append(text)
        if level and len(level[0]) > longest:
            return None

    def many(text):
        return told[text] if text in told else plain_count(plan.words, text)
    words = list(plan.words)
    for text in list(told):
        if told[text] == plan.degree - 1:
            words += [x + text + y for x in plan.letters for y in plan.letters
                      if many(x + text) == plan.degree == many(text + y) and many(x + text + y) == plan.degree + 1]
    return set_in_order(words)


@lru_cache(maxsize=None)
def small_plans():
    """All plans with few words, and others by chance."""
    found = [Plan("ab", words, degree) for many in range(4) for words in combinations(all_texts("ab", 3)[1:], many)
             for degree in (1, 2, 3, 4)]
    found += [Plan("abc", words, degree) for many in range(3) for words in combinations(all_texts("abc", 2)[1:], many)
              for degree in (1, 2, 3)]
    found += [Plan("m", words, degree) for words in [(), ("m",), ("mm",), ("m", "mm")] for degree in (1, 2, 3, 9)]
    chance = random.Random(7)
    for _ in range(400):
        words = []
        for word in chance.sample(all_texts("ab", 4)[3:], 12):
            if len(words) < 5 and not any(comparable(word, other) for other in words):
                words.append(word)
        found.append(Plan("ab", tuple(words), chance.randint(3, 5)))
    return found


def rings_brute(plan, longest):
    """All rings with texts up to a length."""
    texts = all_texts(plan.letters, longest)
    return [(ahead, again) for ahead in texts for again in texts[1:]
            if plain_count(plan.words, ahead + again * 9) < plan.degree] if not flaws_brute(plan) else []


class Examples(unittest.TestCase):
    def test_first(self):
        told = [outcome(PLAN), book_of(PLAN) == NINE, outcome(Plan("ab", ("ab", "ba"), 3)),
                is_ring(Plan("ab", ("ab", "ba"), 3), ("", "ab")), is_ring(Plan("ab", ("ab", "ba"), 3), ("a", "ba"))]
        self.assertEqual(told, ["book", True, "ring", True, True])

    def test_second(self):
        told = [outcome(Plan("ab", ("a",), 2)), is_ring(Plan("ab", ("a",), 2), ("", "aa")),
                is_ring(Plan("ab", ("a",), 2), ("b", "a")), book_of(Plan("ab", (), 2)) == PAIRS,
                paper(Plan("ab", (), 1))]
        self.assertEqual(told, ["ring", True, False, True, ("book", ("a", "b"))])

    def test_third(self):
        told = [is_paper(PLAN, ("book", NINE.words)), is_paper(PLAN, ("ring", "", "a")), paper(PLAN.of_degree(2)),
                find_ring(PLAN), paper(Plan("ab", ("ab", "ba"), 3))[0]]
        self.assertEqual(told, [True, False, ("flaw", ("ways", "ab")), None, "ring"])

    def test_too_great(self):
        with self.assertRaises(TooMany) as caught:
            book_of(Plan("ab", (), 9))
        self.assertEqual(caught.exception.limit, 400)


class Outcomes(unittest.TestCase):
    def test_just_one_is_so(self):
        seen = set()
        for plan in small_plans():
            told = outcome(plan)
            seen.add(told)
            words = None if flaws_brute(plan) else plain_book(plan)
            self.assertEqual(told, "flaw" if flaws_brute(plan) else "ring" if words is None else "book",
                             (plan.words, plan.degree))
            self.assertEqual(find_ring(plan) is not None, told == "ring")
            if told == "book":
                self.assertEqual(book_of(plan), Book(plan.letters, words))
                self.assertEqual(paper(plan), ("book", words))
            else:
                with self.assertRaises(InvalidOperation):
                    book_of(plan)
            if told == "ring":
                ahead, again = find_ring(plan)
                self.assertIs(is_ring(plan, (ahead, again)), True)
                self.assertLess(plain_count(plan.words, ahead + again * 12), plan.degree)
                self.assertNotEqual(again, "")
                self.assertEqual(paper(plan), ("ring", ahead, again))
            if told == "flaw":
                self.assertEqual(paper(plan), ("flaw", first_flaw(plan)))
            self.assertIs(is_paper(plan, paper(plan)), True)
        self.assertEqual(seen, {"flaw", "ring", "book"})

    def test_full_books(self):
        # Each full book is the book of its inner words and its degree.
        for book in FULL:
            plan = Plan(book.letters, tuple(word for word in book.words if plain_inner(book, word)), plain_degree(book))
            self.assertEqual(outcome(plan), "book")
            self.assertEqual(book_of(plan), book)
            self.assertEqual(paper(plan), ("book", book.words))
            self.assertIs(is_paper(plan, ("book", book.words)), True)

    def test_the_book_of_a_plan(self):
        # It is full, has the degree and just these inner words, and L of all texts is told by M.
        found = [plan for plan in small_plans() if outcome(plan) == "book"]
        self.assertGreater(len(found), 60)
        for at, plan in enumerate(found):
            book = book_of(plan)
            self.assertTrue(is_full_plain(book.letters, book.words) and is_full(book))
            self.assertEqual((degree(book), inner_words(book)), (plan.degree, plan.words))
            for text in all_texts(plan.letters, 6 if at % 9 == 0 else 3):
                self.assertEqual(plain_count(book.words, text), min(plan.degree, plain_count(plan.words, text)))
                self.assertEqual(plain_inner(book, text), plain_count(plan.words, text) < plan.degree)

    def test_random_parts(self):
        # Some inner words of greater books, and other words: rings, books, and flaws.
        chance = random.Random(11)
        seen = set()
        for book in [book for book in FULL if len(inner_words(book)) > 1]:
            inner = inner_words(book)
            for _ in range(3):
                words = chance.sample(inner, chance.randint(1, min(6, len(inner))))
                plan = Plan(book.letters, tuple(words), degree(book) + chance.randint(-1, 0))
                told = outcome(plan)
                seen.add(told)
                self.assertEqual(told == "flaw", flaws_brute(plan) != [])
                if told == "ring":
                    ahead, again = find_ring(plan)
                    self.assertTrue(is_ring(plan, (ahead, again)))
                    self.assertLess(plain_count(plan.words, ahead + again * 50), plan.degree)
                if told == "book":
                    found = book_of(plan)
                    self.assertEqual((degree(found), inner_words(found)), (plan.degree, plan.words))
        self.assertLessEqual({"flaw", "book"}, seen)

    def test_degree_one(self):
        for letters in ["a", "ab", "mxz"]:
            self.assertEqual(book_of(Plan(letters, (), 1)).words, tuple(letters))
            self.assertEqual(outcome(Plan(letters, (letters[0],), 1)), "flaw")

    def test_one_letter(self):
        for degree_told in [1, 2, 399, 400]:
            plan = Plan("m", (), degree_told)
            self.assertEqual(paper(plan), ("book", ("m" * degree_told,)))
            self.assertEqual(book_of(plan), Book("m", ("m" * degree_told,)))
        self.assertEqual(paper(Plan("m", ("mm",), 5)), ("flaw", ("full",)))


class TooGreat(unittest.TestCase, Refusing):
    def test_books(self):
        for plan in [Plan("ab", (), 9), Plan("ab", (), 400), Plan("abc", (), 6), Plan("abc", (), 400),
                     Plan("ab", ("ab",), 9), Plan("ab", ("aab", "abb"), 12), Plan("ab", ("ab" + "a" * 6,), 300)]:
            self.assertEqual((outcome(plan), find_ring(plan)), ("book", None))
            for call in [book_of, paper]:
                self.check_error(call, (plan,), TooMany, {"limit": 400})
            for value in [("book", ()), ("book", ("a", "b")), ("book", NINE.words), ("book", plan.words), ("ring",),
                          ("ring", "", "a"), ("flaw", ("full",)), ("flaw", None), ("book", None)]:
                self.assertIs(is_paper(plan, value), False)

    def test_just_at_the_limit(self):
        for plan, many in [(Plan("ab", (), 8), 256), (Plan("abc", (), 5), 243), (Plan("ab", ("ab",), 7), 378)]:
            self.assertEqual(len(book_of(plan)), many)
            self.assertIs(is_paper(plan, paper(plan)), True)
        # Over two letters, with more and more inner words.
        words = numbered(34, 7)[1:]
        for more, many in [((), 397), (("baabaab",), 400), (("baabaab", "babaaab"), 401)]:
            plan = Plan("ab", tuple(words) + more, 8)
            told = plain_words(plan)
            self.assertEqual((outcome(plan), len(told)), ("book", many))
            self.assertIs(is_paper(plan, ("book", told)), many <= 400)
            if many <= 400:
                self.assertEqual((book_of(plan).words, paper(plan)), (told, ("book", told)))
            else:
                self.check_error(book_of, (plan,), TooMany, {"limit": 400})
                self.check_error(paper, (plan,), TooMany, {"limit": 400})

    def test_behind_operation(self):
        # A ring or a flaw is told also where a book would be too great.
        for plan in [Plan("ab", ("ab", "ba"), 400), Plan("ab", ("a", "ab"), 400), Plan("ab", ("a", "b"), 400)]:
            self.check_error(book_of, (plan,), InvalidOperation)
            self.assertIn(paper(plan)[0], ("ring", "flaw"))


def plain_words(plan):
    """The words of the book of a plan, however many they are, letter by letter as [0.14] and [0.16] tell."""
    def ways(text):
        return min(plan.degree, plain_count(plan.words, text))
    words, level = [], list(plan.letters)
    while level:
        begun = [text for text in level if ways(text) == ways(text[1:])]
        words += begun
        level = [text + letter for text in level if text not in begun for letter in plan.letters]
    return set_in_order(words)


class Rings(unittest.TestCase):
    def test_all_small_values(self):
        for at, plan in enumerate(small_plans()[:900:7] + RINGS):
            wanted = set(rings_brute(plan, 2))
            texts = all_texts(plan.letters, 2)
            for ahead in texts:
                for again in texts:
                    self.assertIs(is_ring(plan, (ahead, again)), (ahead, again) in wanted, (plan.words, ahead, again))

    def test_a_text_ahead(self):
        plan = Plan("ab", ("ab", "ba"), 3)
        for ahead, again, told in [("", "ab", True), ("a", "ba", True), ("b", "ab", True), ("ba", "ba", True),
                                   ("a", "ab", False), ("aa", "ba", False), ("abb", "ab", False), ("b", "ba", False)]:
            self.assertIs(is_ring(plan, (ahead, again)), told)
        # With a greater degree there is room for more ahead.
        plan = Plan("ab", ("ab", "ba"), 6)
        for many in range(9):
            self.assertIs(is_ring(plan, ("a" * many, "ba")), max(many, 1) + 1 < 6)
            self.assertIs(is_ring(plan, ("a" * many, "ab")), many + 2 < 6)
        # The ring begins only behind a text that ends as its words do.
        plan = Plan("ab", ("aab", "aba", "baa"), 4)
        for ahead in all_texts("ab", 5):
            for again in ["aab", "aba", "baa", "aabaab"]:
                wanted = plain_count(plan.words, ahead + again * 6) < 4
                self.assertIs(is_ring(plan, (ahead, again)), wanted)
        self.assertIs(is_ring(plan, ("", "aab")), True)
        self.assertIs(is_ring(plan, ("b", "aab")), True)
        self.assertIs(is_ring(plan, ("bb", "aab")), False)

    def test_growth_that_comes_late(self):
        # M of many rounds is small, but it grows with each one.
        self.assertIs(is_ring(Plan("ab", ("b",), 400), ("", "a" + "b" * 20)), False)
        self.assertIs(is_ring(Plan("ab", ("b",), 400), ("a" * 398, "b")), True)
        self.assertIs(is_ring(Plan("ab", ("b",), 400), ("a" * 399, "b")), False)
        # A word that goes over several rounds.
        plan = Plan("ab", ("a" * 7,), 9)
        self.assertEqual(find_ring(plan)[1], "a")
        for ahead in ["", "a", "b", "ba", "ab", "bb"]:
            for again in ["a", "aa", "aaaaa", "a" * 8, "a" * 40]:
                self.assertIs(is_ring(plan, (ahead, again)), plain_count(plan.words, ahead + again * 20) < 9)

    def test_states_without_a_word(self):
        # From "bab" the text "ab" leads back, too, but there no word ends at each letter.
        plan = Plan("abc", ("ab", "bba", "babb", "ccccc"), 6)
        ahead, again = find_ring(plan)
        self.assertTrue(is_ring(plan, (ahead, again)))
        self.assertLess(plain_count(plan.words, ahead + again * 30), 6)
        for ahead in all_texts("ab", 3):
            for again in all_texts("ab", 3)[1:]:
                self.assertIs(is_ring(plan, (ahead, again)), plain_count(plan.words, ahead + again * 9) < 6)

    def test_too_long_rings(self):
        # If a ring is too long, another one is looked for.
        plan = Plan("ab", ("aab", "aba", "baa", "bbb"), 5)
        self.assertEqual(len(find_ring(plan)[1]), 3)
        for limit, wanted in [(3, 3), (2, 1), (1, 1)]:
            with patch("twowaycuts.plan.rounds.MAX_TEXT", limit):
                ahead, again = find_ring(plan)
                self.assertEqual(len(again), wanted)
                self.assertTrue(is_ring(plan, (ahead, again)))

    def test_no_short_ring(self):
        # If all rings are too long, one of them is told; states on the way from one round to another are none.
        with patch("twowaycuts.plan.rounds.MAX_TEXT", 0):
            for plan in small_plans() + RINGS + [Plan("ab", ("aaa", "bbb", "aab", "abb"), 5)]:
                ring = find_ring(plan)
                if ring is not None:
                    self.assertTrue(is_ring(plan, ring))

    def test_long_words_beside_short_ones(self):
        # M of the first rounds grows, but behind seven letters it does not any more.
        for words in [("c", "a" * 7), ("cb", "b" * 3, "a" * 9), ("bc", "cb", "a" * 30)]:
            plan = Plan("abc", words, 40)
            for ahead in ["", "c", "ab"]:
                for again in ["a", "aa", "aaaa", "cb", "b", "c", "bc", "ab"]:
                    self.assertIs(is_ring(plan, (ahead, again)), plain_count(words, ahead + again * 60) < 40)

    def test_long_words(self):
        # All turns of a text: round and round it goes.
        text = spread(1)[0]
        for size in [17, 100, 399]:
            turns = tuple((text[:size] * 2)[at:at + size] for at in range(size))
            plan = Plan("ab", turns, size + 1)
            self.assertEqual(outcome(plan), "ring")
            ahead, again = find_ring(plan)
            self.assertTrue(is_ring(plan, (ahead, again)))
            self.assertEqual(len(again) % size, 0)
            self.assertLess(plain_count(turns, ahead + again * 2), size + 1)
            self.assertTrue(is_ring(plan, ("", text[:size])))
            self.assertTrue(is_ring(plan, (text[:3], text[3:size] + text[:3])))
            self.assertFalse(is_ring(plan, ("", text[:size] + "a")))
            # With one word less the round is broken.
            self.assertEqual(outcome(plan.without_word(turns[5])), "book")
            self.assertIsNone(find_ring(plan.without_word(turns[5])))

    def test_longest_texts(self):
        plan = Plan("ab", ("ab", "ba"), 3)
        self.assertIs(is_ring(plan, ("ab" * 2000, "ab" * 2000)), True)
        self.assertIs(is_ring(plan, ("a" + "ba" * 1999 + "b", "ab")), True)
        self.assertIs(is_ring(plan, ("ab" * 2000, "ab" * 2000 + "a")), False)
        self.assertIs(is_ring(plan, ("ab" * 2001, "ab")), False)
        self.assertIs(is_ring(plan, ("", "ab" * 2001)), False)
        self.assertIs(is_ring(plan, ("", "ab" * 1999 + "aa")), False)
        self.assertIs(is_ring(plan, ("a" * 4000, "ab" * 2000)), False)

    def test_a_flaw(self):
        self.assertIs(is_ring(Plan("ab", ("a", "b"), 5), ("", "ab")), False)
        self.assertIs(is_ring(Plan("ab", ("a", "ab"), 5), ("", "a")), False)
        self.assertIs(is_ring(Plan("ab", ("ab", "ba"), 2), ("", "ab")), False)
        self.assertIsNone(find_ring(Plan("ab", ("ab", "ba"), 2)))

    def test_no_values(self):
        values = STRANGE + [("", ""), ("a", ""), ["", "ab"], ("", "ab", ""), ("ab",), ("", ["ab"]), ("", "abc"), (),
                            ("c", "ab"), (None, "ab"), ("", None), ("ab", FEW), (PLAN, "ab"), "ab", ("", "ab\n"),
                            {"": "ab"}, ("ring", "", "ab"), ("", ("ab",)), (True, "ab"), (0, "ab")]
        for plan in [Plan("ab", ("ab", "ba"), 3), Plan("ab", ("a",), 2), PLAN]:
            for value in values:
                self.assertIs(is_ring(plan, value), False, value)


class Papers(unittest.TestCase):
    def test_any_flaw(self):
        plan = Plan("ab", ("a", "b", "ab"), 1)
        self.assertEqual(paper(plan), ("flaw", ("clash", "a", "ab")))
        self.assertIs(is_paper(plan, ("flaw", ("clash", "b", "ab"))), True)
        self.assertIs(is_paper(plan, ("flaw", ("ways", "a"))), False)
        self.assertIs(is_paper(plan, ("flaw", ("full",))), False)

    def test_any_ring(self):
        plan = Plan("ab", ("ab", "ba"), 3)
        for ahead, again in [("", "ab"), ("a", "ba"), ("ab", "abab"), ("b", "ab"), ("", "ba")]:
            self.assertIs(is_paper(plan, ("ring", ahead, again)), True)
        for ahead, again in [("", ""), ("aa", "ab"), ("", "a"), ("", "aab")]:
            self.assertIs(is_paper(plan, ("ring", ahead, again)), False)

    def test_books(self):
        for plan in [PLAN, Plan("ab", (), 2), Plan("abc", ("ab",), 3), Plan("m", (), 9)]:
            words = book_of(plan).words
            self.assertIs(is_paper(plan, ("book", words)), True)
            for value in [words[::-1] + ("",), words[:-1], words + (words[-1],), list(words), book_of(plan), (words,),
                          words[1:] + words[:1] if len(words) > 1 else (), words + words, "".join(words)]:
                self.assertIs(is_paper(plan, ("book", value)), False)
            for value in [("book",) + words, ("book", words, ()), ["book", words], (words,), ("Book", words)]:
                self.assertIs(is_paper(plan, value), False)
        self.assertIs(is_paper(Plan("ab", ("ab",), 4), ("book", NINE.words)), False)
        self.assertIs(is_paper(PLAN, ("book", ("ab", "aaa"))), False)

    def test_no_values(self):
        values = STRANGE + [("flaw",), ("flaw", None), ("flaw", "full"), ("flaw", ("full",), 1), ("ring",),
                            ("ring", ""), ("ring", "", ""), ("ring", ("", "ab")), ("ring", "", "ab", ""), ("book",),
                            ("book", None), ("book", PLAN), ("book", NINE), (NINE, NINE.words), (PLAN,), (None, None),
                            (["book"], NINE.words), ("flaw", nested("a", 9)), ("book", nested("a", 9)), (), "book",
                            ("flaw", ("ways", "ab"), ""), ("flaw", ("clash", "a", "ab"), None), ("", "", "ab"),
                            ("ring", None, "ab"), ("ring", "", None), (("book", NINE.words),), {"book": NINE.words}]
        for plan in [PLAN, PLAN.of_degree(2), RINGS[0], RINGS[1], Plan("ab", ("a", "ab"), 3), Plan("ab", (), 9)]:
            for value in values:
                self.assertIs(is_paper(plan, value), False, value)

    def test_only_one_form(self):
        values = [("flaw", ("ways", "ab")), ("flaw", ("full",)), ("flaw", ("clash", "a", "ab")), ("ring", "", "ab"),
                  ("ring", "a", "a"), ("book", NINE.words), ("book", PAIRS.words), ("book", ("a", "b"))]
        for plan, told in [(PLAN, values[5]), (PLAN.of_degree(2), values[0]), (RINGS[0], values[3]),
                           (Plan("ab", (), 2), values[6]), (Plan("ab", (), 1), values[7]),
                           (Plan("ab", ("a", "b"), 2), values[1]), (Plan("ab", ("a", "ab"), 9), values[2])]:
            self.assertEqual([value for value in values if is_paper(plan, value)], [told])


class Statements(unittest.TestCase):
    def test_no_flaw_but_no_book(self):
        # [0.17]: a plan without a flaw need not have a book.
        plan = Plan("ab", ("ab", "ba"), 3)
        self.assertEqual((first_flaw(plan), outcome(plan)), (None, "ring"))

    def test_parts_of_inner_words(self):
        # [0.17]: a part of the inner words need not have a book; [0.18]: it has one if it lacks no shorter word.
        lacking = 0
        for book in SMALL_FULL:
            inner = inner_words(book)
            for many in range(len(inner) + 1):
                for words in combinations(inner, many):
                    left = [len(word) for word in inner if word not in words]
                    told = outcome(Plan(book.letters, words, degree(book)))
                    lacking += told != "book"
                    if not left or not words or max(len(word) for word in words) <= min(left):
                        self.assertEqual(told, "book", (inner, words))
        self.assertGreater(lacking, 0)
        self.assertEqual(outcome(Plan("ab", ("ab", "aaba"), 4)), "book")
        self.assertEqual(paper(Plan("ab", ("aaba",), 4)), ("flaw", ("ways", "aaba")))

    def test_rings_of_other_degrees(self):
        # [10.1]: a ring of a plan without a flaw is also one with any smaller degree that makes no flaw.
        for plan in small_plans():
            if outcome(plan) == "ring":
                for degree_told in range(1, plan.degree):
                    self.assertIn(outcome(plan.of_degree(degree_told)), ("ring", "flaw"))
                self.assertEqual(outcome(plan.of_degree(plan.degree + 1)), "ring")


class Large(unittest.TestCase, Refusing):
    def long_plan(self):
        # 400 words, nearly all of 400 letters; within each one a short word stands.
        short = "abababb"
        rows = ["a" + word[1:190] + "bbbb" + short + word[201:399] + "ab" for word in spread(420)]
        rows = [word[:400] for word in rows]
        rows = [word for word in rows if not word.endswith(short) and not word.startswith(short)]
        return Plan("ab", tuple([short] + rows[:399]), 400)

    def test_400_long_words(self):
        plan = self.long_plan()
        self.assertEqual((len(plan), first_flaw(plan), find_ring(plan)), (400, None, None))
        self.check_error(book_of, (plan,), TooMany, {"limit": 400})
        self.assertIs(is_paper(plan, ("book", plan.words)), False)
        self.assertIs(is_ring(plan, ("a" * 4000, "ab" * 2000)), False)

    def test_others(self):
        for words in [SPREAD.words, ALIKE.words]:
            self.assertEqual(outcome(Plan("ab", words, 400)), "flaw")
        plan = Plan("ab", THIN.words, 400)
        self.assertEqual((outcome(plan), find_ring(plan)[1]), ("ring", "a"))
        self.assertIs(is_ring(plan, ("b" * 200, "a" * 4000)), True)
        self.check_error(book_of, (plan,), InvalidOperation)


class Errors(unittest.TestCase, Refusing):
    def test_wrong_arguments(self):
        for call in [outcome, find_ring, book_of, paper, lambda plan: is_ring(plan, ("", "a")),
                     lambda plan: is_ring(plan, None), lambda plan: is_paper(plan, ("book", ())),
                     lambda plan: is_paper(plan, None)]:
            self.check_wrong(call, (PLAN, NO_PLANS, InvalidPlan))

    def test_nothing_changes(self):
        plan = Plan("ab", ("ab", "ba"), 3)
        told = find_ring(plan), paper(plan), outcome(plan)
        self.assertEqual((find_ring(plan), paper(plan), outcome(plan)), told)
        self.assertEqual(plan, Plan("ab", ("ba", "ab"), 3))


if __name__ == "__main__":
    unittest.main()
