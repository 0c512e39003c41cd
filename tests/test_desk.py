"""[16.1] and stage 16: a text that comes in from both ends."""

import random
import unittest

from tests.desks import histories, state
from tests.fullbooks import FULL, SMALL_FULL, plain_can_exchange, plain_exchange
from tests.refused import Refusing, error_of
from tests.samples import (ALIKE, FEW, NINE, NO_BOOKS, PAIRS, SPREAD, STRANGE, all_books, all_texts, no_texts, row_brute)
from twowaycuts.book.books import Book
from twowaycuts.book.cuts import cut_left, cut_right
from twowaycuts.desk.desk import Desk
from twowaycuts.errors import (InvalidBook, InvalidNumber, InvalidOperation, InvalidText, NotFull, NothingToUndo,
                               TooMany)
from twowaycuts.full.exchanges import exchange
from twowaycuts.plan.ladders import thinner
from twowaycuts.text.wrong import mirrored

EMPTY = Book("ab", ())
SMALL = [book for book in all_books("ab", 3, 3)] + SMALL_FULL[:12] + [
    Book("a", ("aa",)), Book("a", ()), Book("abc", ("a", "bb", "cb")), Book("abc", ("ab", "bc", "cac"))]
WRONG_MANY = [value for value in STRANGE if type(value) is not int] + [-1, -7, 10 ** 200, -10 ** 299, "1", (1,)]


def all_rows(book, longest):
    """All rows of words up to a length, as texts."""
    rows = [""]
    for row in rows:
        rows.extend(row + word for word in book.words if len(row + word) <= longest)
    return rows


class Examples(unittest.TestCase, Refusing):
    def test_all(self):
        desk = Desk(FEW)
        told = [desk.add_left("abb"), desk.add_right("a"), desk.left_words(), desk.right_words(), desk.middle(),
                desk.meet(), len(desk), desk.undo(), desk.right]
        self.assertEqual(told, [None, None, ("ab",), (), "", ("ab", "ba"), 0, 2, "a"])
        self.check_error(desk.add_left, ("b",), InvalidOperation)
        told = [desk.add_right("ab"), desk.right, desk.middle(), desk.change(PAIRS), desk.middle(), desk.left_words(),
                desk.undo(many=0)]
        self.assertEqual(told, [None, "aba", "", None, "", ("ab",), 4])
        self.check_error(desk.exchange, ("ab",), InvalidOperation)
        told = [desk.change(NINE), desk.left, desk.right_words(), desk.mirror(), desk.right, desk.book.words[0],
                str(desk), desk.undo()]
        self.assertEqual(told, [None, "abb", (), None, "bba", "ba", "desk of 9 words, 3 letters left, 3 right", 5])


class Letters(unittest.TestCase, Refusing):
    def test_beginnings_and_ends_of_rows(self):
        for book in SMALL:
            size = 5 if len(book.letters) == 2 else 4
            rows = all_rows(book, size + book.longest)
            for text in all_texts(book.letters, size):
                desk = Desk(book)
                if any(row.startswith(text) for row in rows):
                    self.assertIsNone(desk.add_left(text))
                    self.assertEqual((desk.left, desk.right, len(desk)), (text, "", len(text)))
                else:
                    self.check_error(desk.add_left, (text,), InvalidOperation)
                    self.assertEqual(histories(desk), histories(Desk(book)))
                desk = Desk(book)
                if any(row.endswith(text) for row in rows):
                    self.assertIsNone(desk.add_right(text))
                    self.assertEqual((desk.left, desk.right, len(desk)), ("", text, len(text)))
                else:
                    self.check_error(desk.add_right, (text,), InvalidOperation)
                    self.assertEqual(histories(desk), histories(Desk(book)))

    def test_letter_by_letter(self):
        for book in SMALL[::3]:
            for row in all_rows(book, 7)[-20:]:
                desk = Desk(book)
                for at in range(len(row)):
                    desk.add_left(row[at])
                    desk.add_right(row[len(row) - 1 - at])
                    self.assertEqual((desk.left, desk.right), (row[:at + 1], row[len(row) - 1 - at:]))
                self.assertEqual(desk.undo(many=0), 2 * len(row))

    def test_any_text_fits_a_full_book(self):
        for book in FULL:
            for text in all_texts(book.letters, 2) + [book.words[0] * 3 + book.letters[0], book.letters[-1] * 50]:
                desk = Desk(book)
                desk.add_left(text)
                desk.add_right(text)
                self.assertEqual((desk.left, desk.right), (text, text))

    def test_empty_book(self):
        desk = Desk(EMPTY)
        self.assertIsNone(desk.add_left(""))
        self.assertIsNone(desk.add_right(""))
        self.check_error(desk.add_left, ("a",), InvalidOperation)
        self.check_error(desk.add_right, ("b",), InvalidOperation)
        self.assertEqual((desk.meet(), desk.middle(), desk.left_words(), desk.right_words()), ((), "", (), ()))
        self.assertEqual((str(desk), len(desk), desk.undo(many=3)), ("desk of 0 words, 0 letters left, 0 right", 0, 0))

    def test_many_letters(self):
        desk = Desk(FEW)
        desk.add_left("ab" * 2000)
        desk.add_right("ba" * 1999 + "b")
        self.assertEqual(len(desk), 7999)
        self.check_error(desk.add_left, ("a",), TooMany, {"limit": 4000})
        # Too many letters come ahead of letters that do not fit.
        self.check_error(desk.add_left, ("bb",), TooMany, {"limit": 4000})
        self.check_error(desk.add_left, ("a" * 4000,), TooMany, {"limit": 4000})
        self.check_error(desk.add_right, ("aa",), TooMany, {"limit": 4000})
        self.check_error(desk.add_left, ("a" * 4001,), InvalidText)
        self.check_error(desk.add_right, ("c",), InvalidText)
        self.assertIsNone(desk.add_left(""))
        self.check_error(desk.add_right, ("b",), InvalidOperation)
        desk.add_right("a")
        self.assertEqual(len(desk), 8000)
        self.assertEqual(len(desk.left_words()), 2000)
        self.assertEqual((desk.meet(), len(desk), desk.undo()), (("ab",) * 4000, 0, 4))
        self.assertEqual((len(desk), desk.middle()), (8000, ""))
        self.assertEqual(desk.redo(), 5)
        self.assertEqual(len(desk), 0)

    def test_large_books(self):
        for book in (ALIKE, SPREAD):
            desk = Desk(book)
            row = "".join(book.words[at] for at in range(10))
            desk.add_left(row)
            desk.add_right(row[150:])
            self.assertEqual((desk.left_words(), desk.right_words()), (tuple(book.words[:10]), tuple(book.words[1:10])))
            desk.undo()
            desk.add_right(row[400:])
            self.assertEqual(desk.middle(), "")
            self.assertEqual(len(desk.meet()), 19)
            desk.add_left(row[:3700])
            desk.add_right(row[3950:])
            self.assertEqual(len(desk.middle()), 250)
            self.check_error(desk.meet, (), InvalidOperation)

    def test_words_of_both(self):
        chance = random.Random(3)
        for book in SMALL + FULL[::9]:
            if not len(book):
                continue
            for _ in range(6):
                row = "".join(chance.choice(book.words) for _ in range(4))
                desk = Desk(book)
                desk.add_left(row[:chance.randrange(len(row) + 1)])
                desk.add_right(row[chance.randrange(len(row) + 1):])
                self.assertEqual(desk.left_words(), cut_left(book, desk.left)[0])
                self.assertEqual(desk.right_words(), cut_right(book, desk.right)[1])
                words = row_brute(book, desk.left + desk.middle() + desk.right)
                self.assertEqual(words[:len(desk.left_words())], desk.left_words())
                self.assertEqual(words[len(words) - len(desk.right_words()):], desk.right_words())

    def test_wrong_arguments(self):
        for book in (FEW, NINE, EMPTY):
            desk = Desk(book)
            for call in (desk.add_left, desk.add_right, desk.exchange):
                for text in no_texts("ab"):
                    self.check_error(call, (text,), InvalidText)
            self.assertEqual(histories(desk), histories(Desk(book)))
        self.check_wrong(Desk, (FEW, NO_BOOKS, InvalidBook))


class Middle(unittest.TestCase):
    def test_all_texts_tried(self):
        for book in SMALL:
            size = 4 if len(book.letters) < 3 else 3
            texts = all_texts(book.letters, 2 * book.longest)
            rows = {row: True for row in all_rows(book, 2 * size + 2 * book.longest)}
            for left in all_texts(book.letters, size)[::2]:
                if not any(row.startswith(left) for row in rows):
                    continue
                for right in all_texts(book.letters, size)[::3]:
                    if any(row.endswith(right) for row in rows):
                        desk = Desk(book)
                        desk.add_left(left)
                        desk.add_right(right)
                        wanted = next(text for text in texts if left + text + right in rows)
                        self.assertEqual(desk.middle(), wanted, (book.words, left, right))
                        self.assertEqual(state(desk), (book, left, right))

    def test_within_one_word(self):
        desk = Desk(Book("ab", ("aabab", "bb")))
        desk.add_left("aa")
        desk.add_right("b")
        self.assertEqual(desk.middle(), "ba")
        # Two words can be shorter than one.
        desk = Desk(Book("ab", ("aabbaaab", "aaa", "bab")))
        desk.add_left("aa")
        desk.add_right("ab")
        self.assertEqual(desk.middle(), "ab")
        desk = Desk(Book("ab", ("aab", "abbb")))
        desk.add_left("a")
        desk.add_right("b")
        self.assertEqual(desk.middle(), "a")


class Books(unittest.TestCase, Refusing):
    def test_change(self):
        for book in SMALL[::2]:
            for other in SMALL[::3]:
                desk = Desk(book)
                rows = all_rows(other, 8)
                for left, right in (("", ""), ("a", ""), ("", "a"), ("ab"[:len(book.letters)], "a")):
                    desk = Desk(book)
                    if error_of(desk.add_left, (left,)) or error_of(desk.add_right, (right,)):
                        continue
                    fits = any(row.startswith(left) for row in rows) and any(row.endswith(right) for row in rows)
                    if book.letters == other.letters and fits:
                        self.assertIsNone(desk.change(other))
                        self.assertEqual((state(desk), desk.undo()), ((other, left, right), 2))
                    else:
                        self.check_error(desk.change, (other,), InvalidOperation)
                        self.assertEqual((state(desk), desk.undo()), ((book, left, right), 1))

    def test_wrong_change(self):
        desk = Desk(FEW)
        desk.add_left("a")
        self.check_wrong(desk.change, (FEW, NO_BOOKS, InvalidBook))
        self.check_error(desk.change, (Book("abc", ("ab", "ba")),), InvalidOperation)
        self.check_error(desk.change, (Book("a", ("a",)),), InvalidOperation)
        self.check_error(desk.change, (EMPTY,), InvalidOperation)
        self.check_error(desk.change, (Book("ab", ("bb",)),), InvalidOperation)
        desk.clear()
        self.assertIsNone(desk.change(EMPTY))

    def test_exchange(self):
        for book in SMALL_FULL[:60]:
            for text in all_texts(book.letters, 3):
                desk = Desk(book)
                desk.add_left(book.letters)
                desk.add_right(text)
                if not plain_can_exchange(book, text):
                    self.check_error(desk.exchange, (text,), InvalidOperation)
                elif len(plain_exchange(book, text)) > 400:
                    self.check_error(desk.exchange, (text,), TooMany, {"limit": 400})
                else:
                    self.assertIsNone(desk.exchange(text))
                    self.assertEqual(state(desk), (Book(book.letters, tuple(plain_exchange(book, text))), book.letters, text))
                    self.assertEqual(desk.undo(), 2)
                self.assertEqual(state(desk), (book, book.letters, text))
        book = next(one for one in FULL if len(one) == 385)
        desk = Desk(book)
        self.check_error(desk.exchange, ("bbz",), TooMany, {"limit": 400})
        self.check_error(desk.exchange, ("bbb",), InvalidOperation)
        self.assertEqual(histories(desk), histories(Desk(book)))

    def test_thin(self):
        for book in SMALL_FULL + FULL[-12:]:
            desk = Desk(book)
            desk.add_left(book.words[0])
            if len(book.words[0]) == 1:
                self.check_error(desk.thin, (), InvalidOperation)
                self.assertEqual((state(desk), desk.undo(many=0)), ((book, book.words[0], ""), 1))
            elif len(book.letters) > 1:
                self.assertIsNone(desk.thin())
                self.assertEqual((state(desk), desk.undo()), ((thinner(book), book.words[0], ""), 1))

    def test_books_that_are_not_full(self):
        for book, text in ((FEW, "aa"), (EMPTY, "a"), (Book("ab", ("a", "bb")), "bab"), (NINE.without_word("ab"), "ab")):
            desk = Desk(book)
            self.check_error(desk.thin, (), NotFull, {"text": text})
            self.check_error(desk.exchange, ("ab",), NotFull, {"text": text})
            self.check_error(desk.exchange, ("a" * 4000,), NotFull, {"text": text})
            self.check_error(desk.exchange, ("ac",), InvalidText)
            self.assertEqual(histories(desk), histories(Desk(book)))

    def test_mirror(self):
        for book in SMALL + FULL[::7]:
            for word in book.words[:3]:
                desk = Desk(book)
                desk.add_left(word + word[:-1])
                desk.add_right(word[1:])
                self.assertIsNone(desk.mirror())
                self.assertEqual(state(desk), (mirrored(book), word[1:][::-1], (word + word[:-1])[::-1]))
                desk.mirror()
                self.assertEqual((state(desk), desk.undo(many=2)), ((book, word + word[:-1], word[1:]), 2))

    def test_meet(self):
        for book in SMALL:
            size = 3
            for left in all_texts(book.letters, size):
                for right in all_texts(book.letters, size)[::2]:
                    desk = Desk(book)
                    if error_of(desk.add_left, (left,)) or error_of(desk.add_right, (right,)):
                        continue
                    row = row_brute(book, left + right)
                    if row is None:
                        self.check_error(desk.meet, (), InvalidOperation)
                        self.assertEqual((state(desk), desk.undo(many=0)), ((book, left, right), 2))
                    else:
                        self.assertEqual(desk.meet(), row)
                        self.assertEqual((state(desk), desk.undo()), ((book, "", ""), 2))
                        self.assertEqual(state(desk), (book, left, right))


class Undoing(unittest.TestCase, Refusing):
    def filled(self):
        desk = Desk(FEW)
        desk.add_left("ab")
        desk.add_right("a")
        desk.change(PAIRS)
        desk.mirror()
        desk.clear()
        desk.clear()
        desk.meet()
        return desk

    def test_one_by_one(self):
        desk = self.filled()
        states = [(PAIRS, "", "")] * 3 + [(PAIRS, "a", "ba"), (PAIRS, "ab", "a"), (FEW, "ab", "a"), (FEW, "ab", ""),
                                          (FEW, "", "")]
        for at, one in enumerate(states):
            self.assertEqual(state(desk), one)
            if at < 7:
                self.assertEqual(desk.undo(), 6 - at)
        self.check_error(desk.undo, (), NothingToUndo, {"many": 1})
        for at, one in enumerate(states[::-1]):
            self.assertEqual(state(desk), one)
            if at < 7:
                self.assertEqual(desk.redo(), at + 1)
        self.check_error(desk.redo, (), NothingToUndo, {"many": 1})

    def test_several_at_once(self):
        desk = self.filled()
        self.assertEqual((desk.undo(many=4), state(desk)), (3, (PAIRS, "ab", "a")))
        self.assertEqual((desk.redo(many=2), state(desk)), (5, (PAIRS, "", "")))
        self.assertEqual((desk.undo(many=5), state(desk)), (0, (FEW, "", "")))
        self.assertEqual((desk.redo(many=0), desk.undo(many=0)), (0, 0))
        self.assertEqual((desk.redo(many=7), state(desk)), (7, (PAIRS, "", "")))
        for many in (8, 9, 400, 10 ** 199, 10 ** 200 - 1):
            with self.assertRaises(NothingToUndo) as caught:
                desk.undo(many=many)
            self.assertEqual(caught.exception.many, many)
        desk.undo(many=3)
        for many in (4, 5, 10 ** 200 - 1):
            with self.assertRaises(NothingToUndo) as caught:
                desk.redo(many=many)
            self.assertEqual(caught.exception.many, many)
        self.assertEqual((desk.undo(many=0), desk.redo(many=3)), (4, 7))

    def test_wrong_many(self):
        desk = self.filled()
        desk.undo(many=2)
        before = histories(desk)
        for call in (desk.undo, desk.redo):
            for many in WRONG_MANY:
                with self.assertRaises(InvalidNumber) as caught:
                    call(many=many)
                self.assertEqual(caught.exception.value, many)
            with self.assertRaises(TypeError):
                call(1)
        self.assertEqual(histories(desk), before)

    def test_new_calls_end_redoing(self):
        for call in ("add_left", "add_right", "change", "exchange", "thin", "mirror", "meet", "clear"):
            desk = Desk(Book.uniform("ab", 3))
            desk.clear()
            desk.mirror()
            desk.undo()
            arguments = {"add_left": ("",), "add_right": ("",), "change": (Book.uniform("ab", 3),), "exchange": ("ab",)}
            getattr(desk, call)(*arguments.get(call, ()))
            self.check_error(desk.redo, (), NothingToUndo, {"many": 1})
            self.assertEqual(desk.undo(many=0), 2)
            self.assertEqual(desk.undo(many=2), 0)
            self.assertEqual(desk.redo(many=2), 2)

    def test_what_does_not_end_redoing(self):
        desk = self.filled()
        desk.undo(many=3)
        calls = [lambda: desk.undo(many=0), lambda: desk.redo(many=0), desk.middle, desk.left_words, desk.right_words,
                 desk.twin, lambda: len(desk), lambda: str(desk), lambda: desk == Desk(FEW),
                 lambda: desk.during(lambda one: one.clear()), lambda: error_of(desk.undo, (9,)),
                 lambda: error_of(desk.thin, (1,)), lambda: error_of(desk.add_left, ("c",)),
                 lambda: error_of(desk.change, (EMPTY,)),
                 lambda: error_of(desk.exchange, ("",)), lambda: error_of(Desk, (desk,))]
        before = histories(desk)
        for call in calls:
            call()
            self.assertEqual(histories(desk), before)
        self.assertEqual(desk.redo(many=3), 7)

    def test_by_a_model(self):
        for seed in range(40):
            chance = random.Random(seed)
            book = chance.choice([FEW, PAIRS, NINE, Book.uniform("ab", 3), Book("ab", ("a", "bb"))])
            desk, now, past, future = Desk(book), (book, "", ""), [], []
            for _ in range(60):
                new, many = None, chance.randrange(4)
                text = "".join(chance.choice("ab") for _ in range(many))
                kind = chance.randrange(9)
                if kind == 0 and error_of(desk.add_left, (text,)) is None:
                    new = (now[0], now[1] + text, now[2])
                elif kind == 1 and error_of(desk.add_right, (text,)) is None:
                    new = (now[0], now[1], text + now[2])
                elif kind == 2 and error_of(desk.change, (PAIRS,)) is None:
                    new = (PAIRS, now[1], now[2])
                elif kind == 3 and error_of(desk.exchange, (text,)) is None:
                    new = (exchange(now[0], text), now[1], now[2])
                elif kind == 4 and error_of(desk.thin, ()) is None:
                    new = (thinner(now[0]), now[1], now[2])
                elif kind == 5:
                    self.assertIsNone(desk.mirror())
                    new = (mirrored(now[0]), now[2][::-1], now[1][::-1])
                elif kind == 6 and error_of(desk.meet, ()) is None:
                    self.assertIsNotNone(row_brute(now[0], now[1] + now[2]))
                    new = (now[0], "", "")
                elif kind == 7 and many <= len(past):
                    for _ in range(many):
                        future.append(now)
                        now = past.pop()
                    self.assertEqual(desk.undo(many=many), len(past))
                elif kind == 8 and many <= len(future):
                    for _ in range(many):
                        past.append(now)
                        now = future.pop()
                    self.assertEqual(desk.redo(many=many), len(past))
                if new is not None:
                    past.append(now)
                    now, future = new, []
                self.assertEqual(state(desk), now)
            self.assertEqual(histories(desk), ([now] + past[::-1], (past + [now] + future[::-1])))


class Blocks(unittest.TestCase, Refusing):
    def filled(self):
        desk = Desk(FEW)
        desk.add_left("ab")
        desk.add_right("ba")
        desk.change(PAIRS)
        desk.undo()
        return desk

    def spoil(self, desk):
        desk.undo()
        desk.add_left("ba")
        desk.change(NINE)
        desk.mirror()
        desk.clear()
        desk.undo()
        return "spoiled"

    def test_trial(self):
        desk = self.filled()
        before = histories(desk)
        with desk.trial() as same:
            self.assertIs(same, desk)
            self.spoil(same)
            self.assertEqual(state(desk), (mirrored(NINE), "", "abba"))
            self.assertEqual(desk.undo(many=0), 4)
        self.assertEqual(histories(desk), before)
        self.assertEqual(desk.redo(), 3)

    def test_during(self):
        desk = self.filled()
        before = histories(desk)
        self.assertEqual(desk.during(self.spoil), "spoiled")
        self.assertEqual(histories(desk), before)
        self.assertIs(desk.during(lambda one: one), desk)
        self.assertEqual(desk.during(lambda one: one.meet()), ("ab", "ba"))
        self.assertIsNone(desk.during(lambda one: None))
        self.assertEqual(histories(desk), before)

    def test_errors_go_on(self):
        desk = self.filled()
        before = histories(desk)
        with self.assertRaises(ZeroDivisionError):
            with desk.trial():
                self.spoil(desk)
                raise ZeroDivisionError
        self.assertEqual(histories(desk), before)
        with self.assertRaises(InvalidText):
            with desk.trial() as same:
                same.clear()
                same.add_left("c")
        self.assertEqual(histories(desk), before)

        def fail(one):
            self.spoil(one)
            one.undo(many=99)
        with self.assertRaises(NothingToUndo):
            desk.during(fail)
        self.assertEqual(histories(desk), before)
        for wrong in (None, 3, "call"):
            with self.assertRaises(TypeError):
                desk.during(wrong)
        self.assertEqual(histories(desk), before)

    def test_blocks_within_blocks(self):
        desk = self.filled()
        before = histories(desk)
        with desk.trial() as same:
            same.undo()
            middle = histories(desk)
            with same.trial():
                self.spoil(same)
                self.assertEqual(desk.during(lambda one: (one.clear(), one.undo(many=0))), (None, 4))
                self.assertEqual(desk.undo(many=0), 3)
            self.assertEqual(histories(desk), middle)
            self.assertEqual(desk.redo(), 2)
        self.assertEqual(histories(desk), before)
        self.assertEqual(desk.during(lambda one: one.during(lambda two: two.during(self.spoil))), "spoiled")
        self.assertEqual(histories(desk), before)

    def test_a_block_begins_at_with(self):
        desk = self.filled()
        trial = desk.trial()
        desk.clear()
        before = histories(desk)
        for _ in range(2):
            with trial as same:
                same.mirror()
                with trial as again:
                    again.mirror()
                    again.undo(many=2)
                self.assertEqual(desk.undo(many=0), 4)
            self.assertEqual(histories(desk), before)

    def test_leaving_a_block(self):
        desk = self.filled()
        before = histories(desk)

        def leave():
            for _ in range(3):
                with desk.trial() as same:
                    same.clear()
                    return same.undo(many=0)
        self.assertEqual(leave(), 3)
        self.assertEqual(histories(desk), before)

    def test_undo_and_redo_in_blocks(self):
        desk = self.filled()
        with desk.trial() as same:
            self.assertEqual((same.undo(many=2), same.redo(many=3), state(same)), (0, 3, (PAIRS, "ab", "ba")))
            same.undo(many=3)
            self.check_error(same.undo, (), NothingToUndo, {"many": 1})
        self.assertEqual((desk.undo(many=0), state(desk)), (2, (FEW, "ab", "ba")))
        self.assertEqual((desk.redo(), state(desk)), (3, (PAIRS, "ab", "ba")))


class Values(unittest.TestCase):
    def test_twins(self):
        desk = Desk(FEW)
        desk.add_left("ab")
        desk.add_right("ba")
        desk.undo()
        twin = desk.twin()
        self.assertEqual((twin, histories(twin)), (desk, histories(desk)))
        before = histories(desk)
        twin.redo()
        twin.clear()
        self.assertEqual(histories(desk), before)
        with desk.trial():
            desk.clear()
            other = desk.twin()
        self.assertEqual((state(other), other.undo(many=0), histories(desk)), ((FEW, "", ""), 2, before))
        desk.mirror()
        self.assertEqual((twin.undo(), state(twin)), (2, (FEW, "ab", "ba")))
        self.assertIsNot(desk.twin(), desk)

    def test_equal(self):
        one, other = Desk(FEW), Desk(Book("ab", ("ba", "ab")))
        self.assertTrue(one == other and not one != other)
        one.add_left("ab")
        self.assertTrue(one != other and not one == other)
        other.add_right("ab")
        self.assertFalse(one == other)
        other.clear()
        other.add_left("ab")
        self.assertTrue(one == other)
        other.change(PAIRS)
        self.assertFalse(one == other)
        for value in STRANGE + [(FEW, "ab", ""), FEW]:
            self.assertIs(one == value, False)
            self.assertIs(one != value, True)
            self.assertIs(value == one, False)

    def test_told(self):
        desk = Desk(NINE)
        self.assertEqual((str(desk), len(desk)), ("desk of 9 words, 0 letters left, 0 right", 0))
        desk.add_left("abab")
        self.assertEqual((str(desk), len(desk)), ("desk of 9 words, 4 letters left, 0 right", 4))
        desk.add_right("b")
        self.assertEqual((str(desk), len(desk)), ("desk of 9 words, 4 letters left, 1 right", 5))
        self.assertEqual((desk.book, desk.left, desk.right), (NINE, "abab", "b"))
        for name in ("book", "left", "right"):
            with self.assertRaises(AttributeError):
                setattr(desk, name, "")

    def test_no_iteration(self):
        for desk in (Desk(FEW), Desk(EMPTY)):
            for call in (iter, list, tuple, lambda one: [*one], lambda one: "a" in one, lambda one: one[0]):
                with self.assertRaises(TypeError):
                    call(desk)

    def test_calls_return_none(self):
        desk = Desk(Book.uniform("ab", 3))
        told = [desk.add_left("ab"), desk.add_right("ab"), desk.exchange("ab"), desk.change(PAIRS), desk.thin(),
                desk.mirror(), desk.clear()]
        self.assertEqual(told, [None] * 7)


if __name__ == "__main__":
    unittest.main()
