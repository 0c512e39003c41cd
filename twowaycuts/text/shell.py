"""A shell over a desk: lines with commands, and their answers."""

from twowaycuts.book.cuts import row_of
from twowaycuts.book.ways import count_ways
from twowaycuts.desk.desk import Desk
from twowaycuts.errors import InvalidOperation, InvalidText, NotFull, NothingToUndo, ParseError, TooMany
from twowaycuts.full.inner import degree, inner_words
from twowaycuts.plan.outcomes import paper
from twowaycuts.text.formats import is_lower, read_book, read_number, read_plan, write_book, write_value
from twowaycuts.text.wrong import near_rows


def _do_thin(desk):
    desk.thin()
    return "done"


def _do_mirror(desk):
    desk.mirror()
    return "done"


def _do_clear(desk):
    desk.clear()
    return "done"


def _do_undo(desk):
    return _do_undo_many(desk, 1)


def _do_redo(desk):
    return _do_redo_many(desk, 1)


def _tell_meet(desk):
    return _texts(desk.meet())


def _tell_book(desk):
    return write_book(desk.book).replace("\n", "; ")


def _tell_letters(desk):
    return _texts((desk.left, desk.right))


def _tell_words_left(desk):
    return _texts(desk.left_words())


def _tell_words_right(desk):
    return _texts(desk.right_words())


def _tell_middle(desk):
    return _texts((desk.middle(),))


def _tell_degree(desk):
    return str(degree(desk.book))


def _tell_inner(desk):
    return _texts(inner_words(desk.book))


def _do_left(desk, text):
    desk.add_left(text)
    return "done"


def _do_right(desk, text):
    desk.add_right(text)
    return "done"


def _do_exchange(desk, text):
    desk.exchange(text)
    return "done"


def _tell_count(desk, text):
    return str(count_ways(desk.book, text))


def _tell_cut(desk, text):
    row = row_of(desk.book, text)
    return _texts(row) if row is not None else "no"


def _tell_near(desk, text):
    return _texts(near_rows(desk.book, text))


def _do_undo_many(desk, many):
    desk.undo(many=many)
    return "done"


def _do_redo_many(desk, many):
    desk.redo(many=many)
    return "done"


def _do_change(desk, told):
    desk.change(read_book(_unfolded(told)))
    return "done"


def _tell_paper(_, told):
    return write_value(paper(read_plan(_unfolded(told))))


_ALONE = {
    "thin": _do_thin, "mirror": _do_mirror, "clear": _do_clear, "undo": _do_undo, "redo": _do_redo,
    "meet": _tell_meet, "book": _tell_book, "letters": _tell_letters, "words left": _tell_words_left,
    "words right": _tell_words_right, "middle": _tell_middle, "degree": _tell_degree, "inner": _tell_inner,
}
_WITH_TEXT = {
    "left": _do_left, "right": _do_right, "exchange": _do_exchange, "count": _tell_count, "cut": _tell_cut,
    "near": _tell_near,
}
_WITH_NUMBER = {"undo": _do_undo_many, "redo": _do_redo_many}
_WITH_LINES = {"change": _do_change, "paper": _tell_paper}


class Shell:
    """A desk that is told in lines what to do."""

    def __init__(self, book_text):
        self._desk = Desk(read_book(book_text))

    def __call__(self, line):
        return self.answer(line)

    def desk(self):
        """A twin of the desk."""
        return self._desk.twin()

    def answer(self, line):
        """The answer to a line, whose command is done."""
        try:
            return _answer(self._desk, line)
        except ParseError:
            return "what"
        except InvalidText:
            return "text"
        except InvalidOperation:
            return "operation"
        except NotFull as free:
            return f"free ={free.text}"
        except TooMany as over:
            return f"many {over.limit}"
        except NothingToUndo as undone:
            return f"undo {undone.many}"


def _answer(desk, line):
    if not isinstance(line, str):
        return "what"
    if line in _ALONE:
        alone = _ALONE[line]
        return alone(desk)
    word, _, rest = line.partition(" ")
    if word in _WITH_TEXT and rest.startswith("=") and is_lower(rest[1:]):
        with_text = _WITH_TEXT[word]
        return with_text(desk, rest[1:])
    if word in _WITH_NUMBER and read_number(rest) is not None:
        with_number = _WITH_NUMBER[word]
        return with_number(desk, read_number(rest))
    if word in _WITH_LINES:
        with_lines = _WITH_LINES[word]
        return with_lines(desk, rest)
    return "what"


def _texts(texts):
    """Texts as an answer."""
    return " ".join(["=" + text for text in texts]) if texts else "none"


def _unfolded(told):
    """The text of a book or a plan that is told in one line."""
    # A line that is more than one line is no line of the shell.
    if "\n" in told:
        raise ParseError(0)
    return told.replace("; ", "\n")
