"""What some words and their undoing tell: webs, relations, holes and spellings."""

from twowaycuts.base.names import check_letters, check_word, is_integer
from twowaycuts.errors import InvalidOperation, TooMany
from twowaycuts.row.folds import Web
from twowaycuts.row.signs import check_signed, is_signed_text, put_behind, undone_text, without_undone
from twowaycuts.row.turnings import MAX_POINTS, Turning

MAX_BASE = 60


def web(letters, words):
    """The dict from each letter to the points to which it leads 0, 1, 2, .., None where it leads nowhere."""
    return _moves(letters, _web_of(letters, words))


def index_of(letters, words):
    """The number of points, if each letter leads each point on, or None."""
    moves = web(letters, words)
    return len(moves[letters[0]]) if _are_whole(moves) else None


def turning_of(letters, words):
    """The web as a turning in order."""
    moves = web(letters, words)
    if not _are_whole(moves):
        raise InvalidOperation("the words have no index")
    if len(moves[letters[0]]) > MAX_POINTS:
        raise TooMany(MAX_POINTS)
    return Turning(letters, moves).in_order()


def relation(letters, words):
    """A relation of the words, or None."""
    check_words(letters, words)
    return Web(letters, words, True).relation


def is_relation(letters, words, value):
    """Whether the value is a relation of the words."""
    check_words(letters, words)
    return _is_spelled(words, value) and value != () and _told(words, value) == ""


def hole(letters, words):
    """A hole, or None."""
    found = _web_of(letters, words)
    for point, text in found.points():
        for sign in letters + letters.upper():
            # A sign that undoes the last one leads back.
            if sign not in found.steps[point]:
                return text + sign
    return None


def is_hole(letters, words, value):
    """Whether the value is a hole."""
    found = _web_of(letters, words)
    if not is_signed_text(letters, value) or without_undone(value) != value:
        return False
    return found.walk(value)[1] < len(value)


def spelling(letters, words, text):
    """A spelling that tells the signed text, once it is shortened, or None."""
    check_words(letters, words)
    check_signed(letters, text)
    short = without_undone(text)
    found = Web(letters, words, True)
    return found.spelled(short) if found.walk(short) == (0, len(short)) else None


def is_spelling(letters, words, text, value):
    """Whether the value is a spelling that tells the signed text, once it is shortened."""
    check_words(letters, words)
    check_signed(letters, text)
    return _is_spelled(words, value) and _told(words, value) == without_undone(text)


def told_by(letters, words, value):
    """The shortened signed text that a spelling of the words tells."""
    check_words(letters, words)
    if not _is_spelled(words, value):
        raise InvalidOperation("a spelling of the words is wanted")
    return _told(words, value)


def check_words(letters, words):
    """Raise InvalidLetters, InvalidOperation or InvalidWord unless these are letters, and words of them in a tuple."""
    check_letters(letters)
    if not isinstance(words, tuple) or len(words) > MAX_BASE:
        raise InvalidOperation("words are told as a tuple of at most 60 values")
    for word in words:
        check_word(letters, word)


def _web_of(letters, words):
    """The web, whose spellings are not wanted."""
    check_words(letters, words)
    return Web(letters, words, False)


def _moves(letters, found):
    points = found.points()
    numbers = {point: number for number, (point, _) in enumerate(points)}
    moves = {}
    for letter in letters:
        moves[letter] = tuple([numbers.get(found.steps[point].get(letter)) for point, _ in points])
    return moves


def _are_whole(moves):
    return not any([None in moves[letter] for letter in moves])


def _is_spelled(words, value):
    """Whether the value is a spelling of the words."""
    if not isinstance(value, tuple) or not all([_is_pair(words, pair) for pair in value]):
        return False
    return not any([one[0] == other[0] and one[1] != other[1] for one, other in zip(value, value[1:])])


def _is_pair(words, pair):
    # Integers first: True is equal to 1, and no sign.
    if not isinstance(pair, tuple) or len(pair) != 2 or not all([is_integer(part) for part in pair]):
        return False
    return 0 <= pair[0] < len(words) and pair[1] in (1, -1)


def _told(words, value):
    """The shortened signed text of the words, one behind the other, undone for -1."""
    signs = []
    for index, sign in value:
        put_behind(signs, words[index] if sign == 1 else undone_text(words[index]))
    return "".join(signs)
