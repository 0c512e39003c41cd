"""What the document promises over the whole program: [0.13] to [0.18], all stages together."""

import random
import unittest

from tests.desks import histories
from tests.fullbooks import FULL, GREAT_FULL, SMALL_FULL, plain_count, plain_degree
from tests.mirrored import ROWS
from tests.refused import Refusing, error_of
from tests.samples import FEW, NINE, PAIRS, all_books, all_texts
from twowaycuts.book.books import Book, can_stand
from twowaycuts.book.chances import chance, mean, share
from twowaycuts.book.cuts import cut_left, cut_right, row_of
from twowaycuts.book.full import first_free, is_full
from twowaycuts.book.ways import count_ways, places, ways
from twowaycuts.desk.desk import Desk
from twowaycuts.errors import NotFull
from twowaycuts.full.exchanges import exchange, exchangeable
from twowaycuts.full.inner import degree, inner_words, is_inner
from twowaycuts.full.listing import thickened
from twowaycuts.full.weaves import joined, mean_words, power, weave_of
from twowaycuts.lengths.rows import have
from twowaycuts.plan.ladders import heights, ladder, plan_of, thicker, thinner
from twowaycuts.plan.outcomes import book_of, is_paper, outcome, paper
from twowaycuts.plan.plans import Plan
from twowaycuts.row.meets import free_forks, words_standing
from twowaycuts.row.turnings import first_returns
from twowaycuts.row.webs import index_of, relation, spelling, turning_of, web
from twowaycuts.text.formats import read_book, read_plan, read_value, write_book, write_plan, write_value
from twowaycuts.text.shell import Shell
from twowaycuts.text.wrong import fillings, mirrored, near_rows, sure_words

CHANCES = {1: [(1,), (7,)], 2: [(1, 1), (2, 5), (0, 1), (10 ** 199, 3)], 3: [(1, 1, 1), (3, 0, 4), (1, 2, 3)]}
SOME = SMALL_FULL[::6] + GREAT_FULL[::4]


def made_of(book):
    """Full books that come of a full book, each with the degree that it must have."""
    many = plain_degree(book)
    found = [(mirrored(book), many), (book_of(plan_of(book)), many), (read_book(write_book(book)), many)]
    found += [(exchange(book, text), many) for text in exchangeable(book)[:3] if error_of(exchange, (book, text)) is None]
    found += [(one, many - at) for at, one in enumerate(ladder(book))]
    for call, more in ((thicker, many + 1), (lambda one: one * PAIRS, many + 2), (lambda one: NINE * one, many + 3),
                       (lambda one: power(one, 2), 2 * many)):
        if error_of(call, (book,)) is None:
            found.append((call(book), more))
    desk = Desk(book)
    desk.mirror()
    found.append((desk.book, many))
    return found


class FullBooks(unittest.TestCase, Refusing):
    def check(self, book, many):
        """[0.14] and what goes with it."""
        letters = book.letters
        self.assertTrue(is_full(book) and first_free(book) is None)
        self.assertEqual((degree(book), share(book)), (many, (1, 1)))
        for letter in letters:
            self.assertIn(letter * many, book)
        for some in CHANCES[len(letters)]:
            self.assertEqual((chance(book, some), mean(book, some)), ((1, 1), (many, 1)))
        self.assertEqual(outcome(plan_of(book)), "book")
        self.assertEqual(paper(plan_of(book)), ("book", book.words))
        self.assertTrue(is_paper(plan_of(book), ("book", book.words)))
        told = heights(book)
        self.assertEqual(inner_words(book), tuple(word for word in book.words if told[word] < many))
        row = ROWS[letters][0]
        words = words_standing(book, row)
        self.assertEqual((len(words), len(free_forks(book, row))), ((len(letters) - 1) * many + 1, many))
        if len(words) <= 60:
            self.assertEqual((index_of(letters, words), relation(letters, words)), (many, None))
            self.assertEqual(first_returns(turning_of(letters, words), row).words, words)

    def test_all_that_comes_of_full_books(self):
        for book in SOME:
            self.check(book, plain_degree(book))
            for one, many in made_of(book):
                self.check(one, many)

    def test_ways_of_texts(self):
        for book in SMALL_FULL[::4]:
            many = plain_degree(book)
            inner = Plan(book.letters, inner_words(book), many)
            for text in all_texts(book.letters, 5 if len(book.letters) < 3 else 3):
                count = count_ways(book, text)
                self.assertEqual(count, plain_count(book.words, text))
                self.assertEqual(count, min(many, inner.count(text)))
                self.assertEqual(count < many, is_inner(book, text))
                self.assertEqual(count, len(list(ways(book, text))))
                self.assertEqual(count, len(text) + 1 - len(places(book, text)))

    def test_thickened_books_are_thinned_again(self):
        for book in [PAIRS, NINE, Book("abc", ("a", "b", "c")), Book("m", ("mmm",))]:
            found = list(thickened(book))
            self.assertEqual([thinner(one) for one in found], [book] * len(found))
            self.assertIn(thicker(book), found)
            for one in found[::5]:
                self.check(one, plain_degree(book) + 1)

    def test_joined_books(self):
        for book in SMALL_FULL[::9]:
            many = plain_degree(book)
            if len(book) ** 2 > 400 or 2 * book.longest > 400:
                continue
            whole = power(book, 2)
            rows = weave_of(whole, book)
            self.assertEqual(joined(book, rows), whole)
            for some in CHANCES[len(book.letters)]:
                self.assertEqual(mean_words(book, rows, some), (2, 1))
            self.check(whole, 2 * many)

    def test_books_that_are_not_full(self):
        for book in list(all_books("ab", 3, 3)) + [FEW, Book("abc", ("a", "bb"))]:
            text = first_free(book)
            if text is None:
                self.check(book, plain_degree(book))
                continue
            self.assertTrue(can_stand(book, text))
            if len(text) <= 400:
                self.assertEqual(len(book.with_word(text)), len(book) + 1)
            # L is not bounded: a free text, again and again.
            counts = [count_ways(book, text * times) for times in (1, 5, 25)]
            self.assertTrue(counts[0] < counts[1] < counts[2])
            for call in (degree, plan_of, thinner, thicker, ladder, heights, exchangeable):
                self.check_error(call, (book,), NotFull, {"text": text})


class NotTrue(unittest.TestCase):
    """[0.17], one example of each kind."""

    def test_whole_mean(self):
        # Not full, and yet the mean length is a whole number.
        self.assertEqual((mean(FEW, (1, 1)), is_full(FEW)), ((1, 1), False))
        self.assertIsNone(have("ab", (1, 2)))

    def test_not_part_of_a_full_one(self):
        # A full book in which a letter is a word has no words but letters.
        self.assertEqual(outcome(Plan("ab", ("a", "bb"), 400)), "ring")
        self.assertEqual(outcome(Plan("ab", ("ab", "ba"), 3)), "ring")

    def test_same_lengths(self):
        found = [book for book in SMALL_FULL if book.letters == "ab" and plain_degree(book) == 3]
        self.assertTrue(any(one != other and [len(word) for word in one] == [len(word) for word in other]
                            for one in found for other in found))

    def test_true_ones(self):
        for book in FULL:
            if any(len(word) == 1 for word in book.words):
                self.assertEqual(book, Book(book.letters, tuple(book.letters)))
            # The shorter inner words, as many as one likes of them, have a book with this degree.
            words = inner_words(book)
            for many in (0, len(words) // 2, len(words)):
                if not words or many == len(words) or len(words[many]) > len(words[max(0, many - 1)]):
                    self.assertEqual(outcome(Plan(book.letters, words[:many], plain_degree(book))), "book")


class Travels(unittest.TestCase):
    def test_values_through_texts(self):
        rng = random.Random(17)
        for book in SOME + [FEW, Book("ab", ())]:
            text = "".join(rng.choice(book.letters) for _ in range(9))
            values = [book.words, row_of(book, text), cut_left(book, text), cut_right(book, text), places(book, text),
                      tuple(ways(book, text)), share(book), near_rows(book, text), sure_words(book, text),
                      fillings(book, text, 2, 4), first_free(book), is_full(book) or None]
            for value in values:
                if value is not True:
                    self.assertEqual(read_value(write_value(value)), value)
        for book in SOME:
            plan = plan_of(book)
            self.assertEqual(book_of(read_plan(write_plan(plan))), book)
            self.assertEqual(read_value(write_value(paper(plan))), paper(plan))
            for row in ROWS[book.letters][:1]:
                words = words_standing(book, row)
                if len(words) <= 60:
                    steps = tuple(web(book.letters, words).values())
                    self.assertEqual(read_value(write_value(steps)), steps)
                    pairs = spelling(book.letters, words, words[0] + words[-1])
                    self.assertEqual(read_value(write_value(pairs)), pairs)

    def test_desks_beside_shells(self):
        for seed, book in enumerate(SOME + [FEW, PAIRS, NINE]):
            rng = random.Random(seed)
            desk, shell = Desk(book), Shell(write_book(book))
            for _ in range(15):
                text = "".join(rng.choice(book.letters) for _ in range(rng.randrange(4)))
                line, call, arguments = rng.choice([
                    ("left =" + text, desk.add_left, (text,)), ("right =" + text, desk.add_right, (text,)),
                    ("mirror", desk.mirror, ()), ("thin", desk.thin, ()), ("exchange =" + text, desk.exchange, (text,)),
                    ("clear", desk.clear, ()), ("undo", desk.undo, ()), ("redo", desk.redo, ()), ("meet", desk.meet, ()),
                    ("change " + write_book(book).replace("\n", "; "), desk.change, (book,))])
                wrong = error_of(desk.twin().during, (lambda one: getattr(one, call.__name__)(*arguments),))
                answer = shell(line)
                if wrong is not None:
                    self.assertNotEqual(answer, "done")
                elif line == "meet":
                    self.assertEqual(answer, " ".join("=" + word for word in call()) or "none")
                else:
                    call(*arguments)
                    self.assertEqual(answer, "done")
                self.assertEqual(histories(shell.desk()), histories(desk))
                self.assertEqual(shell("letters"), f"={desk.left} ={desk.right}")
                if is_full(desk.book):
                    self.assertEqual(shell("degree"), str(degree(desk.book)))
                    self.assertIsNotNone(row_of(desk.book, desk.left + desk.middle() + desk.right))


if __name__ == "__main__":
    unittest.main()
