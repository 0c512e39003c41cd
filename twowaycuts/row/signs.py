"""Signed texts: letters, and capitals that undo them; and spellings, which are rows of words and undone words."""

from twowaycuts.base.names import MAX_TEXT, check_letters
from twowaycuts.errors import InvalidText


def is_signed_text(letters, value):
    """Whether the value is a signed text of the letters."""
    # A sign that is none of these stops the stripping, so that something is left.
    return isinstance(value, str) and len(value) <= MAX_TEXT and value.strip(signs_of(letters)) == ""


def check_signed(letters, text):
    """Raise InvalidLetters unless these are letters, InvalidText unless the text is a signed one."""
    check_letters(letters)
    if not is_signed_text(letters, text):
        raise InvalidText("a signed text has at most 4000 signs: letters and their capitals")


def signs_of(letters):
    """The letters, and then their capitals."""
    return letters + letters.upper()


def undone_text(text):
    """The signed text that undoes the text."""
    return text[::-1].swapcase()


def without_undone(text):
    """The text without neighbours that undo one another."""
    signs = []
    put_behind(signs, text)
    return "".join(signs)


def put_behind(signs, text):
    """Put a text behind the list of the signs of a shortened one, and shorten them."""
    for sign in text:
        if signs and signs[-1] == sign.swapcase():
            signs.pop()
        else:
            signs.append(sign)


def undone_way(way):
    """The way back."""
    return way[1], way[0]


def joined_ways(one, other):
    """One way and another one behind it. A way is told as a spelling and the one that undoes it, for quick answers."""
    there, back = one
    further, home = other
    many = 0
    most = min(len(back), len(further))
    # The end of the first spelling undoes the beginning of the second one as far as both begin alike, undone.
    while many < most and back[many] == further[many]:
        many += 1
    return there[:len(there) - many] + further[many:], home[:len(home) - many] + back[many:]
