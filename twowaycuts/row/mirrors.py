"""Mirror rows: endless rows of letters that are made by mirroring."""

from twowaycuts.base.names import MAX_TEXT, MAX_WORD, check_letters, check_number, check_text, is_text, ordered
from twowaycuts.errors import InvalidOperation
from twowaycuts.row.stretches import closed, guide_of, mirror_of, stretches

MAX_GUIDE = 20
MAX_STANDING = 60


class MirrorRow:
    """The row of the guide with a head and a round; it never changes."""

    def __init__(self, letters, head, again):
        check_letters(letters)
        check_text(letters, head)
        check_text(letters, again)
        if len(head) > MAX_GUIDE or len(again) > MAX_GUIDE:
            raise InvalidOperation("the head and the round have at most 20 letters")
        if not all([letter in again for letter in letters]):
            raise InvalidOperation("each letter has to be in the round")
        self._letters = letters
        self._head = head
        self._again = again

    @property
    def letters(self):
        """The letters, a string."""
        return self._letters

    @property
    def head(self):
        """The head of the guide, a text."""
        return self._head

    @property
    def again(self):
        """The round of the guide, a text."""
        return self._again

    def guide(self, size):
        """The first so many letters of the guide."""
        check_number(size, 0, MAX_WORD)
        return guide_of(self._head, self._again, size)

    def start(self, size):
        """The first so many letters of the row."""
        check_number(size, 0, MAX_TEXT)
        return mirror_of(self._head, self._again, size, "")[0][:size]

    def __contains__(self, value):
        if not is_text(self._letters, value):
            return False
        return any([value in text for text in stretches(self._letters, self._head, self._again, len(value))])

    def __eq__(self, other):
        if not isinstance(other, MirrorRow) or self._letters != other._letters:
            return False
        # Behind the heads, two rounds that tell the same letters as far as both reach together do so for ever.
        size = 3 * MAX_GUIDE
        return guide_of(self._head, self._again, size) == guide_of(other._head, other._again, size)

    def __str__(self):
        return f"mirror row over {self._letters}"


def mirror_close(letters, text):
    """The shortest text that begins with the text and is the same turned round."""
    check_letters(letters)
    check_text(letters, text)
    turned = text[::-1]
    # What is turned round is behind the letters that have to be put behind the text, ahead of what is left of it.
    at = 0
    while not turned.startswith(text[at:]):
        at += 1
    return text + turned[len(text) - at:]


def standing(row, size):
    """The set of all texts of a size that stand in the row."""
    check_row(row)
    check_number(size, 0, MAX_STANDING)
    texts = stretches(row.letters, row.head, row.again, size)
    return ordered([text[at:at + size] for text in texts for at in range(len(text) - size + 1)])


def fork(row, size):
    """The first so many letters of the row, turned round."""
    check_row(row)
    return row.start(size)[::-1]


def returns_to(row, text):
    """The set of the first returns to a text that stands in the row."""
    check_row(row)
    check_text(row.letters, text)
    if len(text) > MAX_STANDING or text not in row:
        raise InvalidOperation("the text does not stand in the row, or is too long")
    # The first start p(n) that has the text in it has it once, and wherever the text stands, p(n) stands about it.
    whole, ahead = mirror_of(row.head, row.again, 0, text)
    at = whole.find(text)
    longer = [closed(whole, ahead, letter) for letter in row.letters]
    return ordered([one[at:at + len(one) - len(whole)] for one in longer])


def check_row(row):
    """Raise InvalidOperation unless this is a mirror row."""
    if not isinstance(row, MirrorRow):
        raise InvalidOperation("a mirror row is wanted")
