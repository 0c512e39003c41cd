"""[17.1], [17.2] and stage 17: texts of values."""

import random
import unittest

from tests.fullbooks import FULL
from tests.refused import Refusing, error_of
from tests.samples import (ALIKE, FEW, NINE, NO_BOOKS, NO_PLANS, NO_STRINGS, PAIRS, SPREAD, STRANGE, THIN, all_books,
                           all_texts, nested)
from twowaycuts.book.books import Book
from twowaycuts.errors import InvalidBook, InvalidOperation, InvalidPlan, ParseError
from twowaycuts.plan.outcomes import paper
from twowaycuts.plan.plans import Plan
from twowaycuts.text.formats import read_book, read_plan, read_value, write_book, write_plan, write_value

BOOKS = list(all_books("ab", 2, 4)) + list(all_books("abc", 1, 3)) + list(all_books("z", 4, 1)) + FULL + [
    Book("xyz", ()), Book("ab", ())]
PLANS = [Plan("ab", words, degree) for words in ((), ("a",), ("a", "ab"), ("b", "ab", "aab")) for degree in (1, 3, 400)]
PLANS += [Plan("acz", ("zac", "c"), 17), Plan("m", (), 1), Plan("ab", ALIKE.words, 9), Plan("ab", SPREAD.words, 399)]
BAD = ["", " ", "a", "letters", "word", "degree", "letters ", "word ", " word a", "word a ", "word  a", "word a b",
       "words a", "Word a", "word\ta", "letter ab", "degree x", "degree -1", "degree 03", "degree +3", "degree 1_0",
       "degree 3.0", "degree " + "1" * 201, "degree \u0663", "letters ab cd", "word", "=a", "none"]


def depth_tuple(depth, inner):
    """The value in so many tuples."""
    for _ in range(depth):
        inner = (inner,)
    return inner


def some_value(chance, depth):
    kind = chance.randrange(6 if depth < 8 else 4)
    if kind == 0:
        return None
    if kind == 1:
        return chance.randrange(-10 ** chance.randrange(1, 200), 10 ** chance.randrange(1, 200))
    if kind == 2:
        return "".join(chance.choice("abcxyz") for _ in range(chance.randrange(5)))
    if kind == 3:
        return chance.randrange(-3, 4)
    return tuple(some_value(chance, depth + 1) for _ in range(chance.randrange(5)))


class Examples(unittest.TestCase, Refusing):
    def test_first(self):
        told = [write_book(FEW).split("\n"), write_plan(Plan("ab", ("ab",), 3)).split("\n"),
                write_value(("ring", "", ("ab", 3, None)))]
        self.assertEqual(told, [["letters ab", "word ab", "word ba"], ["letters ab", "degree 3", "word ab"],
                                "( =ring = ( =ab 3 none ) )"])

    def test_second(self):
        told = [read_book(write_book(NINE)) == NINE, read_plan("letters ab\ndegree 2") == Plan("ab", (), 2),
                read_value("( =book ( =a =b ) )")]
        self.assertEqual(told, [True, True, ("book", ("a", "b"))])

    def test_refused(self):
        self.check_error(read_book, ("letters ab\nword ba\nword ab",), ParseError, {"index": 3})
        self.check_error(read_plan, ("letters ab\nword ab",), ParseError, {"index": 1})


class Books(unittest.TestCase, Refusing):
    def test_there_and_back(self):
        for book in BOOKS + [ALIKE, SPREAD, THIN]:
            text = "\n".join(["letters " + book.letters] + ["word " + word for word in book.words])
            self.assertEqual(write_book(book), text)
            self.assertEqual(read_book(text), book)
        for plan in PLANS:
            text = "\n".join(["letters " + plan.letters, "degree " + str(plan.degree)] + ["word " + word for word in plan.words])
            self.assertEqual(write_plan(plan), text)
            self.assertEqual(read_plan(text), plan)

    def check_read(self, call, lines, heads):
        """What [17.2] says of lines that may be wrong."""
        index = None
        for at, line in enumerate(lines):
            parts = line.split(" ")
            head = heads[at] if at < len(heads) else "word"
            good = len(parts) == 2 and parts[0] == head and len(parts[1]) > 0
            if good and head == "degree":
                good = all(sign in "0123456789" for sign in parts[1]) and len(parts[1]) <= 200
                good = good and (parts[1] == "0" or parts[1][0] != "0")
            if not good:
                index = at
                break
        text = "\n".join(lines)
        if index is None:
            told = error_of(call, (text,))
            if told is None:
                value = call(text)
                self.assertEqual((write_book if call == read_book else write_plan)(value), text)
                return
            index = len(lines)
        self.check_error(call, (text,), ParseError, {"index": index})

    def test_lines_left_out_put_in_exchanged_bent(self):
        for call, heads, texts in ((read_book, ["letters"], [write_book(FEW), write_book(NINE), write_book(Book("a", ()))]),
                                   (read_plan, ["letters", "degree"], [write_plan(plan) for plan in PLANS[:14]])):
            for text in texts:
                lines = text.split("\n")
                self.check_read(call, lines, heads)
                for at in range(len(lines) + 1):
                    for bad in BAD + lines + ["word b", "degree 2", "degree 0", "degree 401", "letters ba", "letters abc",
                                              "letters ?", "word c", "word " + "a" * 401, "word !", "letters A"]:
                        self.check_read(call, lines[:at] + [bad] + lines[at:], heads)
                        self.check_read(call, lines[:at] + [bad] + lines[at + 1:], heads)
                        self.check_read(call, lines[:at] + [bad], heads)
                    self.check_read(call, lines[:at] + lines[at + 1:], heads)
                    for to in range(len(lines)):
                        other = list(lines)
                        if at < len(lines):
                            other[at], other[to] = other[to], other[at]
                        self.check_read(call, other, heads)

    def test_index(self):
        cases = [("", 0), ("\n", 0), ("letters ab\n", 1), ("letters ab\nword a\n", 2), ("letters ab\n\nword a", 1),
                 ("letters ab\nword b\nword a", 3), ("letters ab\nword a\nword a", 3), ("letters ab\nword a\nword ab", 3),
                 ("letters ba", 1), ("letters abcd", 1), ("letters aa", 1), ("letters ab\nword c", 2),
                 ("letters ab\nword a\r", 2), ("letters ab\nword a ", 1), ("letters  ab", 0), (" letters ab", 0),
                 ("letters ab\nword a\nwords b\nword  b", 2), ("letters \tb", 1), ("letters ab\nword " + "a" * 401, 2),
                 ("word a", 0), ("letters ab\nletters ab", 1), ("letters ab\ndegree 3", 1), ("letters ab\nword =", 2)]
        for text, index in cases:
            self.check_error(read_book, (text,), ParseError, {"index": index})
        cases = [("", 0), ("letters ab", 1), ("letters ab\ndegree 0", 2), ("letters ab\ndegree 401", 2),
                 ("letters ab\ndegree -1", 1), ("letters ab\ndegree 01", 1), ("letters ab\ndegree 3\n", 2),
                 ("letters ab\ndegree " + "9" * 200, 2), ("letters ab\ndegree " + "9" * 201, 1), ("degree 3", 0),
                 ("letters ab\ndegree 3\nword b\nword a", 4), ("letters ab\ndegree 3\ndegree 3", 2),
                 ("letters ba\ndegree 3", 2), ("letters ab\nword a\ndegree 3", 1), ("letters ?\ndegree 3\nword", 2)]
        for text, index in cases:
            self.check_error(read_plan, (text,), ParseError, {"index": index})
        # What clashes is no book, but a plan can have it.
        self.assertEqual(read_plan("letters ab\ndegree 1\nword a\nword ab"), Plan("ab", ("a", "ab"), 1))

    def test_great_texts(self):
        lines = write_book(ALIKE).split("\n")
        self.check_error(read_book, ("\n".join(lines + ["word " + "b" * 400]),), ParseError, {"index": 402})
        self.check_error(read_book, ("\n".join(lines + ["word " + "b" * 400, "word"]),), ParseError, {"index": 402})
        lines = write_plan(Plan("ab", ALIKE.words, 2)).split("\n")
        self.check_error(read_plan, ("\n".join(lines + ["word " + "b" * 400]),), ParseError, {"index": 403})
        text = "letters ab\n" + "word a\n" * 100000
        self.check_error(read_book, (text,), ParseError, {"index": 100001})
        self.check_error(read_book, (text[:-1],), ParseError, {"index": 100001})
        self.check_error(read_book, ("letters ab\nword " + "a" * 300000,), ParseError, {"index": 2})
        self.check_error(read_book, ("a" * 300000,), ParseError, {"index": 0})
        self.check_error(read_plan, ("letters ab\ndegree " + "1" * 300000,), ParseError, {"index": 1})

    def test_wrong_arguments(self):
        self.check_wrong(write_book, (FEW, NO_BOOKS, InvalidBook))
        self.check_wrong(write_plan, (PLANS[0], NO_PLANS, InvalidPlan))
        for call in (read_book, read_plan, read_value):
            for value in NO_STRINGS:
                self.check_error(call, (value,), InvalidOperation)
        for call in (read_book, read_plan):
            for value in STRANGE:
                if isinstance(value, str):
                    self.check_error(call, (value,), ParseError, {"index": 0})


class Values(unittest.TestCase, Refusing):
    def test_single_values(self):
        cases = [(None, "none"), ("", "="), ("none", "=none"), ("z", "=z"), (0, "0"), (-1, "-1"), (12, "12"), ((), "( )"),
                 (((),), "( ( ) )"), (("", ""), "( = = )"), ((0, (None, -5), "q"), "( 0 ( none -5 ) =q )"),
                 (10 ** 200 - 1, "9" * 200), (1 - 10 ** 200, "-" + "9" * 200),
                 ("qwertyuiopasdfghjklzxcvbnm", "=qwertyuiopasdfghjklzxcvbnm")]
        for value, text in cases:
            self.assertEqual(write_value(value), text)
            self.assertEqual(read_value(text), value)
            self.assertIs(type(read_value(text)), type(value))
            self.check_error(read_value, (text + "\n",), ParseError, {"index": 1})
            self.check_error(read_value, (text + "\n" + text,), ParseError, {"index": 1})
            self.check_error(read_value, ("\n" + text,), ParseError, {"index": 0})
            for bent in (text + " ", " " + text, text + " )", "( " + text, text + " " + text, text.upper() + "!"):
                self.check_error(read_value, (bent,), ParseError, {"index": 0})

    def test_there_and_back(self):
        for seed in range(400):
            value = some_value(random.Random(seed), 0)
            self.assertEqual(read_value(write_value(value)), value)
        for plan in [plan for plan in PLANS if plan.degree < 9]:
            self.assertEqual(read_value(write_value(paper(plan))), paper(plan))
        for book in BOOKS:
            self.assertEqual(read_value(write_value(book.words)), book.words)
            self.assertEqual(write_value(book.words), "( " + "".join("=" + word + " " for word in book.words) + ")")

    def test_wrong_lines(self):
        parts = ["(", ")", "=", "=a", "0", "-1", "none", "-0", "00", "x", ""]
        for many in range(5):
            rows = [()]
            for _ in range(many):
                rows = [row + (part,) for row in rows for part in (parts if many < 4 else parts[:4])]
            for row in rows:
                self.check_line(" ".join(row))

    def check_line(self, line):
        """A line is the text of a value, or is refused."""
        told = error_of(read_value, (line,))
        if told is None:
            self.assertEqual(write_value(read_value(line)), line)
        else:
            self.check_error(read_value, (line,), ParseError, {"index": 0})
            self.check_error(read_value, (line + "\n=a",), ParseError, {"index": 0})
            if not any(part in line.split(" ") for part in ("-0", "00", "x", "")):
                level, done = 0, []
                for part in line.split(" "):
                    level += {"(": 1, ")": -1}.get(part, 0)
                    done.append(level <= 0)
                # It is not one value: something is open, or stands behind the first value.
                self.assertTrue(level != 0 or True in done[:-1])

    def test_wrong_parts(self):
        for part in ("+1", "-0", "00", "01", "-01", "1_0", "1.0", "0x1", "--1", "-", "1-", "\u0663", "\u00b2", "9" * 201,
                     "-" + "9" * 201, "=A", "=a1", "a", "=a=", "==", "= a", "=\u00e9", "None", "nil", "()", "(", ")", "True",
                     "=" + "a" * 4001, "\t", "=a\t", "[", "( )x", "(=a)", "9" * 300000, "=" + "a" * 300000):
            self.check_error(read_value, (part,), ParseError, {"index": 0})
            self.check_error(read_value, (f"( 1 {part} )",), ParseError, {"index": 0})

    def test_bounds(self):
        for inner in ((), "a", 5, None):
            eight, nine = depth_tuple(8, inner), depth_tuple(9, inner)
            if inner == ():
                eight, nine = depth_tuple(7, inner), depth_tuple(8, inner)
            self.assertEqual(read_value(write_value(eight)), eight)
            self.check_error(write_value, (nine,), InvalidOperation)
            text = "( " + write_value(eight) + " )"
            self.check_error(read_value, (text,), ParseError, {"index": 0})
        self.assertEqual(read_value(write_value("a" * 4000)), "a" * 4000)
        self.check_error(write_value, ("a" * 4001,), InvalidOperation)
        for number in (10 ** 200 - 1, 1 - 10 ** 200, 10 ** 199):
            self.assertEqual(read_value(write_value((number,))), (number,))
        for number in (10 ** 200, -10 ** 200, 10 ** 299):
            self.check_error(write_value, (number,), InvalidOperation)
            self.check_error(read_value, (str(number),), ParseError, {"index": 0})
        wide = (1,) * 20000
        self.assertEqual(read_value(write_value(wide)), wide)
        self.check_error(read_value, ("( " * 100000,), ParseError, {"index": 0})
        self.check_error(read_value, (" ".join(["("] * 50000 + [")"] * 50000),), ParseError, {"index": 0})

    def test_values_without_a_text(self):
        values = [True, False, [], [1], {}, {"a": 1}, "A", "a b", "a\n", " ", "0", "=", 10 ** 200, FEW, PLANS[0],
                  nested(1, 3), nested("a", 10), InvalidBook("a"), "\u00e9"]
        for value in values:
            self.check_error(write_value, (value,), InvalidOperation)
            self.check_error(write_value, ((1, value),), InvalidOperation)
            self.check_error(write_value, (("a", (value, 2)),), InvalidOperation)
        for value in STRANGE:
            told = error_of(write_value, (value,))
            if told is None:
                self.assertEqual(read_value(write_value(value)), value)
            else:
                self.assertIs(type(told), InvalidOperation)


if __name__ == "__main__":
    unittest.main()
