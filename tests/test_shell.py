"""Stage 18: the shell."""

import random
import unittest

from tests.desks import histories
from tests.fullbooks import FULL
from tests.refused import Refusing, error_of
from tests.samples import (ALIKE, FEW, NINE, NO_STRINGS, PAIRS, STRANGE, THIN, all_books)
from twowaycuts.book.books import Book
from twowaycuts.book.cuts import row_of
from twowaycuts.book.full import first_free, is_full
from twowaycuts.book.ways import count_ways
from twowaycuts.desk.desk import Desk
from twowaycuts.errors import InvalidOperation, InvalidText, NotFull, NothingToUndo, ParseError, TooMany
from twowaycuts.full.inner import degree, inner_words
from twowaycuts.plan.outcomes import paper
from twowaycuts.plan.plans import Plan
from twowaycuts.text.formats import read_value, write_book, write_plan, write_value
from twowaycuts.text.shell import Shell
from twowaycuts.text.wrong import near_rows

THREE = Book.uniform("ab", 3)
EMPTY = Book("ab", ())


def shell_of(book):
    return Shell(write_book(book))


def line_of(text):
    return text.replace("\n", "; ")


def told(words):
    return " ".join("=" + word for word in words) or "none"


def answer_of(call, *arguments, **named):
    """The answer that a call should have."""
    try:
        value = call(*arguments, **named)
    except InvalidText:
        return "text"
    except InvalidOperation:
        return "operation"
    except NotFull as error:
        return "free =" + error.text
    except TooMany as error:
        return "many " + str(error.limit)
    except NothingToUndo as error:
        return "undo " + str(error.many)
    return value


class Examples(unittest.TestCase):
    def test_all(self):
        shell = Shell(write_book(FEW))
        lines = ["left =abb", "right =a", "letters", "words left", "words right", "middle", "meet", "degree", "thin"]
        self.assertEqual([shell(line) for line in lines],
                         ["done", "done", "=abb =a", "=ab", "none", "=", "=ab =ba", "free =aa", "free =aa"])
        lines = ["cut =abba", "cut =ab" + "b", "near =abbb", "paper letters ab; degree 2", "undo 9", "left =c", "exchange",
                 "book"]
        self.assertEqual([shell(line) for line in lines],
                         ["=ab =ba", "no", "=abab =abba", "( =book ( =aa =ab =ba =bb ) )", "undo 9", "text", "what",
                          "letters ab; word ab; word ba"])


class Commands(unittest.TestCase, Refusing):
    def check(self, shell, line, answer, kept=False):
        before = histories(shell.desk())
        self.assertEqual(shell(line), answer, line)
        if kept:
            self.assertEqual(histories(shell.desk()), before)

    def test_changes(self):
        shell = shell_of(THREE)
        desk = Desk(THREE)
        steps = [("left =ab", desk.add_left, ("ab",)), ("right =ba", desk.add_right, ("ba",)),
                 ("change letters ab; word aa; word ab; word ba; word bb", desk.change, (PAIRS,)),
                 ("undo", desk.undo, ()), ("exchange =ab", desk.exchange, ("ab",)), ("thin", desk.thin, ()),
                 ("mirror", desk.mirror, ()), ("clear", desk.clear, ()), ("left =", desk.add_left, ("",)),
                 ("undo", desk.undo, ()), ("redo", desk.redo, ()), ("right =", desk.add_right, ("",))]
        for line, call, arguments in steps:
            call(*arguments)
            self.check(shell, line, "done")
            self.assertEqual(shell.desk(), desk)
            self.assertEqual(histories(shell.desk()), histories(desk))
        for line, many, call in (("undo 2", 2, desk.undo), ("undo 0", 0, desk.undo), ("redo 1", 1, desk.redo),
                                 ("undo 5", 5, desk.undo), ("redo 0", 0, desk.redo), ("redo 6", 6, desk.redo)):
            call(many=many)
            self.check(shell, line, "done")
            self.assertEqual(histories(shell.desk()), histories(desk))

    def test_answers(self):
        shell = shell_of(NINE)
        for line, answer in (("letters", "= ="), ("words left", "none"), ("words right", "none"), ("middle", "="),
                             ("degree", "3"), ("inner", "=ab"), ("count =abab", "3"), ("count =", "1"), ("cut =", "none"),
                             ("cut =abaaba", "=ab =aaba"), ("cut =aa", "no"), ("near =", "="), ("near =aa", "=ab"),
                             ("near =bb", "=ab"), ("near =ba", "none"), ("book", line_of(write_book(NINE)))):
            self.check(shell, line, answer, True)
        self.check(shell, "left =abaabab", "done")
        self.check(shell, "right =bab", "done")
        for line, answer in (("letters", "=abaabab =bab"), ("words left", "=ab =aaba"), ("words right", "=ab"),
                             ("middle", "=b")):
            self.check(shell, line, answer, True)
        self.check(shell, "clear", "done")
        self.check(shell, "meet", "none")
        self.assertEqual(shell.desk().undo(many=0), 4)

    def test_the_same_as_calls(self):
        books = list(all_books("ab", 2, 4)) + FULL[:40] + [Book("abc", ("a", "bb", "cb")), Book("m", ("mm",)), THIN]
        for seed, book in enumerate(books):
            chance = random.Random(seed)
            shell = shell_of(book)
            for _ in range(12):
                desk = shell.desk()
                text = "".join(chance.choice(book.letters + "a") for _ in range(chance.randrange(5)))
                many = chance.randrange(4)
                other = chance.choice(books)
                self.assertEqual(shell(f"count ={text}"), str(answer_of(count_ways, desk.book, text)))
                row = answer_of(row_of, desk.book, text)
                self.assertEqual(shell(f"cut ={text}"),
                                 row if row == "text" else "no" if row is None else told(row))
                rows = answer_of(near_rows, desk.book, text)
                self.assertEqual(shell(f"near ={text}"), rows if rows == "text" else told(rows))
                self.assertEqual(shell("inner"), told(inner_words(desk.book)))
                wanted = str(degree(desk.book)) if is_full(desk.book) else "free =" + first_free(desk.book)
                self.assertEqual(shell("degree"), wanted)
                self.assertEqual(shell("middle"), told([desk.middle()]))
                self.assertEqual(shell("letters"), told([desk.left, desk.right]))
                self.assertEqual(shell("words left"), told(desk.left_words()))
                self.assertEqual(shell("words right"), told(desk.right_words()))
                self.assertEqual(shell("book"), line_of(write_book(desk.book)))
                line, call, arguments, named = chance.choice([
                    (f"left ={text}", desk.add_left, (text,), {}), (f"right ={text}", desk.add_right, (text,), {}),
                    ("change " + line_of(write_book(other)), desk.change, (other,), {}),
                    (f"exchange ={text}", desk.exchange, (text,), {}), ("thin", desk.thin, (), {}),
                    ("mirror", desk.mirror, (), {}), ("clear", desk.clear, (), {}), ("meet", desk.meet, (), {}),
                    ("undo", desk.undo, (), {}), ("redo", desk.redo, (), {}),
                    (f"undo {many}", desk.undo, (), {"many": many}), (f"redo {many}", desk.redo, (), {"many": many})])
                value = answer_of(call, *arguments, **named)
                wanted = value if isinstance(value, str) else told(value) if line == "meet" else "done"
                self.assertEqual(shell(line), wanted)
                self.assertEqual(histories(shell.desk()), histories(desk))

    def test_refused(self):
        shell = shell_of(FEW)
        shell("left =ab")
        for line, answer in (("left =b" + "b", "operation"), ("left =c", "text"), ("right =zz", "text"),
                             ("left =" + "a" * 4001, "text"), ("left =" + "a" * 4000, "many 4000"),
                             ("left =" + "ab" * 100000, "text"), ("right =aa", "operation"), ("exchange =q", "text"),
                             ("exchange =ab", "free =aa"), ("thin", "free =aa"), ("degree", "free =aa"),
                             ("count =xyz", "text"), ("cut =" + "a" * 4001, "text"), ("near =cab", "text"),
                             ("undo 2", "undo 2"), ("redo", "undo 1"), ("redo 3", "undo 3"),
                             ("undo " + "9" * 200, "undo " + "9" * 200), ("redo 1" + "0" * 199, "undo 1" + "0" * 199),
                             ("change letters abc; word ab; word ba", "operation"), ("change letters ab", "operation"),
                             ("change letters ab; word bb", "operation"), ("paper letters ab; degree 9", "many 400"),
                             ("paper letters ab; degree 400", "many 400"), ("paper letters m; degree 400",
                                                                           f"( =book ( ={'m' * 400} ) )")):
            self.check(shell, line, answer, True)
        shell = shell_of(Book("ab", ("a", "b")))
        for line, answer in (("thin", "operation"), ("exchange =a", "operation"), ("undo", "undo 1"), ("degree", "1"),
                             ("inner", "none")):
            self.check(shell, line, answer, True)
        shell = shell_of(PAIRS)
        self.check(shell, "left =a", "done")
        self.check(shell, "meet", "operation", True)
        book = next(one for one in FULL if len(one) == 385)
        self.check(shell_of(book), "exchange =bbz", "many 400", True)

    def test_papers(self):
        shell = shell_of(EMPTY)
        for words in ((), ("ab",), ("ab", "ba"), ("a",), ("aab", "abb"), ("a", "ab"), ("a", "b")):
            for number in (1, 2, 3, 4):
                plan = Plan("ab", words, number)
                answer = shell("paper " + line_of(write_plan(plan)))
                self.assertEqual(answer, write_value(paper(plan)))
                self.assertEqual(read_value(answer), paper(plan))
        self.assertEqual(shell("paper letters xyz; degree 1"), "( =book ( =x =y =z ) )")
        self.assertEqual(shell("paper letters ab; degree 1; word a; word b"), "( =flaw ( =ways =a ) )")
        self.assertEqual(histories(shell.desk()), histories(Desk(EMPTY)))

    def test_lines_that_are_none(self):
        words = ["left", "right", "change", "exchange", "thin", "mirror", "clear", "undo", "redo", "meet", "book", "letters",
                 "words", "middle", "degree", "count", "cut", "inner", "near", "paper", "words left", "words right"]
        alone = {"thin", "mirror", "clear", "undo", "redo", "meet", "book", "letters", "middle", "degree", "inner",
                 "words left", "words right"}
        lines = ["", " ", "\n", "what", "done", "=ab", "2", "help", "undo -1", "undo 02", "undo 00", "undo +1", "undo 1.0",
                 "undo  1", "undo 1 ", "undo x", "undo =a", "undo 2 3", "undo " + "1" * 201, "undo \u0663", "redo -0", "redo",
                 "redo 1_0", "undo " + "1" * 5000, "left ab", "left =Ab", "left =a b", "left =a ", "left  =a", "left =a=b",
                 "left =a\n", "left ==", "right =1", "left=ab", "words", "words middle", "words left ", "words  left",
                 "letters =", "near", "near abc", "count 3", "cut none", "paper", "paper letters ab",
                 "paper letters ab; word ab; degree 3", "paper letters ab; degree 03", "paper letters ab; degree 0",
                 "paper letters ab;degree 3", "paper letters ab;  degree 3", "paper letters ab\ndegree 3",
                 "paper letters ab; degree 3\nword ab", "paper letters ab; degree 3;", "paper letters ab; degree 3; ",
                 "paper letters ab; degree 401", "paper letters ab; degree 3; word b; word a", "change", "change ",
                 "change letters ba", "change letters ab; word ba; word ab", "change letters ab; word a; word ab",
                 "change letters ab\nword ab", "change letters ab; word ab\n", "change letters ab; word ab; ",
                 "change letters ab;word ab", "change  letters ab", "change word ab", "change =ab", "left =\u00e9",
                 "left =a\u00e9a"]
        lines += [word + " " for word in words] + [" " + word for word in words] + [word.upper() for word in words]
        lines += [word + "\n" for word in words] + [word + " x" for word in words] + [word for word in words
                                                                                     if word not in alone]
        lines += [word + " =a" for word in alone if word not in ("words left",)]
        shell = shell_of(NINE)
        shell("left =ab")
        shell("right =ab")
        shell("undo")
        before = histories(shell.desk())
        for line in [one for one in lines if one != "redo"] + NO_STRINGS + [one for one in STRANGE if isinstance(one, str)]:
            self.assertEqual(shell(line), "what", str(line)[:100])
            self.assertEqual(shell.answer(line), "what")
        self.assertEqual(histories(shell.desk()), before)

    def test_long_lines(self):
        shell = shell_of(EMPTY)
        for line in ("left " + "a" * 10 ** 6, "a" * 10 ** 6, "undo " + " " * 10 ** 6, "change " + "letters ab; " * 10 ** 5,
                     "paper letters ab; degree 3" + "; word a" * 10 ** 5):
            self.assertEqual(shell(line), "what")
        self.assertEqual(shell("left =" + "a" * 10 ** 6), "text")
        self.assertEqual(shell("change " + line_of(write_book(ALIKE))), "done")
        self.assertEqual(shell.desk().book, ALIKE)
        self.assertEqual(shell("left =" + "".join(ALIKE.words[:10])), "done")
        self.assertEqual(shell("right =" + "".join(ALIKE.words[:10])), "done")
        self.assertEqual(shell("meet"), told(ALIKE.words[:10] * 2))
        self.assertEqual(shell("near =" + "".join(ALIKE.words[:10])), told(near_rows(ALIKE, "".join(ALIKE.words[:10]))))


class Values(unittest.TestCase, Refusing):
    def test_answer_is_the_call(self):
        one, other = shell_of(FEW), shell_of(FEW)
        for line in ("left =abb", "thin", "letters", "undo", "undo", "redo", "x", "meet", "near =aa", "book", "undo 2"):
            self.assertEqual(one(line), other.answer(line))
            self.assertEqual(histories(one.desk()), histories(other.desk()))

    def test_desk_is_a_twin(self):
        shell = shell_of(FEW)
        shell("left =ab")
        shell("right =ba")
        shell("undo")
        desk = shell.desk()
        self.assertIs(type(desk), Desk)
        before = histories(desk)
        desk.redo()
        desk.clear()
        self.assertEqual(histories(shell.desk()), before)
        self.assertEqual(shell("redo"), "done")
        self.assertEqual((shell("letters"), desk.left, len(desk)), ("=ab =ba", "", 0))

    def test_a_text_that_is_no_book(self):
        for text, index in (("", 0), ("letters ba", 1), ("letters ab\nword ba\nword ab", 3), ("letters ab\n", 1),
                            ("letters ab; word ab", 0), (write_plan(Plan("ab", (), 2)), 1), ("x" * 100000, 0)):
            self.check_error(Shell, (text,), ParseError, {"index": index})
        for value in NO_STRINGS:
            self.check_error(Shell, (value,), InvalidOperation)
        self.assertIsNone(error_of(Shell, (write_book(ALIKE),)))


if __name__ == "__main__":
    unittest.main()
