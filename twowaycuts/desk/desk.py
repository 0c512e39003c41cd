"""Desks: a row of words of which one reader has the first letters, and another one the last letters."""

from twowaycuts.base.names import MAX_TEXT, check_text, is_integer, ordered
from twowaycuts.book.books import check_book
from twowaycuts.book.cuts import cut_left, cut_right
from twowaycuts.book.finds import row_in
from twowaycuts.errors import InvalidNumber, InvalidOperation, NothingToUndo, TooMany
from twowaycuts.full.exchanges import exchange
from twowaycuts.full.inner import extensions
from twowaycuts.plan.ladders import thinner
from twowaycuts.text.wrong import mirrored


class Desk:
    """A book, and what a left and a right reader have of one row of its words; all changes can be undone."""

    def __init__(self, book):
        check_book(book)
        # A state is a book, the letters of the left reader and those of the right one; it is never changed itself.
        self._now = (book, "", "")
        self._past = []
        self._future = []

    @property
    def book(self):
        """The book."""
        return self._now[0]

    @property
    def left(self):
        """The letters of the left reader."""
        return self._now[1]

    @property
    def right(self):
        """The letters of the right reader."""
        return self._now[2]

    def __len__(self):
        return len(self._now[1] + self._now[2])

    def __eq__(self, other):
        return isinstance(other, Desk) and self._now == other._now

    def __str__(self):
        book, left, right = self._now
        return f"desk of {len(book.words)} words, {len(left)} letters left, {len(right)} right"

    def add_left(self, text):
        """Put letters behind those of the left reader."""
        book, left, right = self._now
        check_text(book.letters, text)
        _check_size(left + text)
        _check_beginning(book, left + text)
        self._take(book, left + text, right)

    def add_right(self, text):
        """Put letters ahead of those of the right reader."""
        book, left, right = self._now
        check_text(book.letters, text)
        _check_size(text + right)
        _check_end(book, text + right)
        self._take(book, left, text + right)

    def change(self, book):
        """Take another book."""
        check_book(book)
        old, left, right = self._now
        if book.letters != old.letters:
            raise InvalidOperation("the other book has to have the same letters")
        _check_beginning(book, left)
        _check_end(book, right)
        self._take(book, left, right)

    def exchange(self, text):
        """Take the book in which the text is exchanged."""
        # In a full book each text is a beginning, and an end, of a row of words.
        book, left, right = self._now
        self._take(exchange(book, text), left, right)

    def thin(self):
        """Take the thinner book."""
        book, left, right = self._now
        self._take(thinner(book), left, right)

    def mirror(self):
        """Take the mirrored book; the readers change places."""
        book, left, right = self._now
        self._take(mirrored(book), right[::-1], left[::-1])

    def meet(self):
        """Take the row that both readers have together, and return its words."""
        book, left, right = self._now
        row = row_in(book.words, left + right)
        if row is None:
            raise InvalidOperation("the letters of both readers are no row of words")
        self._take(book, "", "")
        return row

    def clear(self):
        """Leave both readers without letters."""
        self._take(self._now[0], "", "")

    def middle(self):
        """The first text that makes a row of words between the letters of both readers, or None."""
        book, left, right = self._now
        near = cut_left(book, left)[1]
        far = cut_right(book, right)[0]
        # What is left begins a word, or ends one, if it is not empty: so there is a text that makes two words of it.
        behind = extensions(book, near)[1][0] if near != "" else ""
        ahead = extensions(book, far)[0][0] if far != "" else ""
        fitting = [word[len(near):len(word) - len(far)] for word in book.words if _is_about(word, near, far)]
        return ordered(fitting + [behind + ahead])[0]

    def left_words(self):
        """The words that are cut off from what the left reader has."""
        return cut_left(self._now[0], self._now[1])[0]

    def right_words(self):
        """The words that are cut off from what the right reader has."""
        return cut_right(self._now[0], self._now[2])[1]

    def undo(self, *, many=1):
        """Take back so many calls; the number of those that can be undone then."""
        _check_many(many, len(self._past))
        for _ in range(many):
            self._future.append(self._now)
            self._now = self._past.pop()
        return len(self._past)

    def redo(self, *, many=1):
        """Do so many calls again; the number of those that can be undone then."""
        _check_many(many, len(self._future))
        for _ in range(many):
            self._past.append(self._now)
            self._now = self._future.pop()
        return len(self._past)

    def trial(self):
        """A block, for `with`, at whose end the desk is as it was."""
        return Trial(self)

    def during(self, call):
        """What the call returns for the desk, which is as it was then."""
        now, past, future = self._now, list(self._past), list(self._future)
        try:
            return call(self)
        finally:
            self._now = now
            self._past = past
            self._future = future

    def twin(self):
        """An independent copy, with all that can be undone and done again."""
        other = Desk(self._now[0])
        other._now = self._now
        other._past = list(self._past)
        other._future = list(self._future)
        return other

    def _take(self, book, left, right):
        self._past.append(self._now)
        self._future = []
        self._now = (book, left, right)


class Trial:
    """A block at whose end a desk is as it was at the beginning; it can be begun again, also within itself."""

    def __init__(self, desk):
        self._desk = desk
        self._held = None

    def __enter__(self):
        desk = self._desk
        self._held = Held(desk._now, list(desk._past), list(desk._future), self._held)
        return desk

    def __exit__(self, kind, value, trace):
        desk = self._desk
        desk._now = self._held.now
        desk._past = self._held.past
        desk._future = self._held.future
        self._held = self._held.outer


class Held:
    """What a desk had when a block began, and what is held for the block around it."""

    def __init__(self, now, past, future, outer):
        self.now = now
        self.past = past
        self.future = future
        self.outer = outer


def _check_size(text):
    if len(text) > MAX_TEXT:
        raise TooMany(MAX_TEXT)


def _check_beginning(book, text):
    rest = cut_left(book, text)[1]
    if rest != "" and not any([word.startswith(rest) for word in book.words]):
        raise InvalidOperation("the left reader would have no beginning of a row of words")


def _check_end(book, text):
    rest = cut_right(book, text)[0]
    if rest != "" and not any([word.endswith(rest) for word in book.words]):
        raise InvalidOperation("the right reader would have no end of a row of words")


def _check_many(many, most):
    if not is_integer(many) or many < 0:
        raise InvalidNumber(many)
    if many > most:
        raise NothingToUndo(many)


def _is_about(word, near, far):
    """Whether the word has room for both texts, with which it begins and ends."""
    return len(word) >= len(near) + len(far) and word.startswith(near) and word.endswith(far)
