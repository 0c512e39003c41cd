"""Turnings: letters that lead points to points, each letter different ones to different ones."""

from twowaycuts.base.names import MAX_WORD, check_letters, check_number, is_integer
from twowaycuts.book.books import Book
from twowaycuts.errors import InvalidOperation, TooMany
from twowaycuts.row.mirrors import check_row
from twowaycuts.row.signs import check_signed, is_signed_text, without_undone
from twowaycuts.row.stretches import stretches

MAX_POINTS = 60


class Turning:
    """Letters that lead the points from 0 on; it never changes."""

    def __init__(self, letters, moves):
        check_letters(letters)
        if not _are_moves(letters, moves):
            raise InvalidOperation("moves are told as a dict from each letter to a tuple of all points")
        self._letters = letters
        self._moves = {letter: moves[letter] for letter in letters}

    @property
    def letters(self):
        """The letters, a string."""
        return self._letters

    @property
    def moves(self):
        """The dict from each letter to the points to which it leads 0, 1, 2, .."""
        return {letter: self._moves[letter] for letter in self._letters}

    def __len__(self):
        return len(self._moves[self._letters[0]])

    def __eq__(self, other):
        return isinstance(other, Turning) and self._letters == other._letters and self._moves == other._moves

    def __str__(self):
        return f"turning of {len(self._moves[self._letters[0]])} points over {self._letters}"

    def led(self, point, text):
        """The point to which a signed text leads a point."""
        check_number(point, 0, len(self) - 1)
        check_signed(self._letters, text)
        at = point
        for sign in text:
            # A capital leads to the point that its letter leads here.
            at = self._moves[sign][at] if sign in self._moves else self._moves[sign.lower()].index(at)
        return at

    def reaches_all(self):
        """Whether each point is one to which some text leads 0."""
        return len(self._reached()) == len(self)

    def in_order(self):
        """The turning in order that comes of this one by other numbers for the points, but for 0."""
        points = self._reached()
        if len(points) < len(self):
            raise InvalidOperation("not all points are reached")
        numbers = {point: number for number, point in enumerate(points)}
        return Turning(self._letters, {letter: tuple([numbers[self._moves[letter][point]] for point in points])
                                       for letter in self._letters})

    def _reached(self):
        """The list of the points to which texts lead 0, by the first of these texts."""
        points = [0]
        known = {0: True}
        at = 0
        while at < len(points):
            for letter in self._letters:
                after = self._moves[letter][points[at]]
                if after not in known:
                    known[after] = True
                    points.append(after)
            at += 1
        return points


def is_signed(letters, value):
    """Whether the value is a signed text of the letters."""
    check_letters(letters)
    return is_signed_text(letters, value)


def shortened(letters, text):
    """The shortened signed text."""
    check_signed(letters, text)
    return without_undone(text)


def first_returns(turning, row):
    """The book of the first returns of the turning in the mirror row."""
    if not isinstance(turning, Turning):
        raise InvalidOperation("a turning is wanted")
    check_row(row)
    if turning.letters != row.letters:
        raise InvalidOperation("the turning and the row have to have the same letters")
    if not turning.reaches_all():
        raise InvalidOperation("not all points are reached")
    return Book(row.letters, tuple(_returning(turning.moves, row)))


def _returning(moves, row):
    """The list of the first returns, by the moves of a turning."""
    found = []
    # Texts that stand in the row and have not come back to 0, each with the point to which it leads 0.
    away = [("", 0)]
    size = 0
    reach = 0
    texts = ""
    while away and size < MAX_WORD:
        size += 1
        # Short texts are looked for faster in what holds short texts alone.
        if size > reach:
            reach = 2 * size
            texts = " ".join(stretches(row.letters, row.head, row.again, reach))
        longer = [(text + letter, moves[letter][point]) for text, point in away for letter in row.letters]
        longer = [(text, point) for text, point in longer if text in texts]
        found.extend([text for text, point in longer if point == 0])
        away = [(text, point) for text, point in longer if point != 0]
    if away:
        raise TooMany(MAX_WORD)
    return found


def _are_moves(letters, moves):
    if not isinstance(moves, dict) or len(moves) != len(letters) or not all([letter in moves for letter in letters]):
        return False
    rows = [moves[letter] for letter in letters]
    if not all([isinstance(row, tuple) and 1 <= len(row) <= MAX_POINTS for row in rows]):
        return False
    return all([len(row) == len(rows[0]) and _has_all_points(row) for row in rows])


def _has_all_points(row):
    # Integers first: True is equal to 1, and no point.
    return all([is_integer(point) for point in row]) and sorted(row) == list(range(len(row)))
