"""Signed texts: letters, and capitals that undo them; and spellings, which are rows of words and undone words."""

from twowaycuts.base.names import MAX_TEXT, check_letters
from twowaycuts.errors import InvalidText


def is_signed_text(letters, value):
    """Whether the value is a signed text of the letters."""
    # A sign that is none of these stops the stripping, so that something is left.
    return isinstance(value, str) and len(value) <= MAX_TEXT and value.strip(signs_of(letters)) == ""


def check_signed(letters, text):
    """Raise InvalidLetters unless these are letters, InvalidText unless the text is a signed one."""
    check_letters(letters)
    if not is_signed_text(letters, text):
        raise InvalidText("a signed text has at most 4000 signs: letters and their capitals")


def signs_of(letters):
    """The letters, and then their capitals."""
    return letters + letters.upper()


def undone_text(text):
    """The signed text that undoes the text."""
    return text[::-1].swapcase()


def without_undone(text):
    """The text without neighbours that undo one another."""
    signs = []
    put_behind(signs, text)
    return "".join(signs)


def put_behind(signs, text):
    """Put a text behind the list of the signs of a shortened one, and shorten them."""
    for sign in text:
        if signs and signs[-1] == sign.swapcase():
            signs.pop()
        else:
            signs.append(sign)


def undone_pairs(pairs):
    """The spelling that undoes a spelling."""
    return tuple([(index, -sign) for index, sign in pairs[::-1]])


def joined_pairs(one, other):
    """One spelling and another one behind it, without neighbours that undo one another."""
    many = 0
    most = min(len(one), len(other))
    while many < most and one[len(one) - 1 - many] == (other[many][0], -other[many][1]):
        many += 1
    return one[:len(one) - many] + other[many:]
