"""Full books, and the texts that are free in the others."""

from twowaycuts.base.names import is_text
from twowaycuts.book.books import can_stand, check_book
from twowaycuts.book.chances import share
from twowaycuts.errors import NotFull


def is_full(book):
    """Whether the book is full."""
    return share(book) == (1, 1)


def is_free(book, value):
    """Whether the value is a free text."""
    check_book(book)
    return is_text(book.letters, value) and can_stand(book, value)


def first_free(book):
    """The first free text, or None if the book is full."""
    if is_full(book):
        return None
    # The right side reads all words, and all texts, from their ends: turned round.
    left = Side(book.letters, book.words)
    right = Side(book.letters, [word[::-1] for word in book.words])
    free = []
    while not free:
        left.deepen()
        right.deepen()
        free = _free_of_size(left, right)
    return min(free)


def check_full(book):
    """Raise NotFull with the first free text unless the book is full."""
    text = first_free(book)
    if text is not None:
        raise NotFull(text)


class Side:
    """The beginnings of some words, up to a length that grows step by step.

    `inside[n]` are the texts of n letters that begin a longer word. `gaps[n]` are those that begin no word and have no
    word as a beginning, though without their last letter they are inside.
    """

    def __init__(self, letters, words):
        self._letters = letters
        self._words = list(words)
        self._is_gap = {"": False}
        self.inside = [[""]]
        self.gaps = [[]]

    def deepen(self):
        """Take in the texts with one letter more."""
        size = len(self.inside)
        heads = {word[:size]: len(word) > size for word in self._words if len(word) >= size}
        nearest = [text + letter for text in self.inside[-1] for letter in self._letters]
        self.inside.append([head for head in heads if heads[head]])
        self.gaps.append([text for text in nearest if text not in heads])
        for text in self.inside[size]:
            self._is_gap[text] = False
        for text in self.gaps[size]:
            self._is_gap[text] = True

    def leaves(self, text, size):
        """Whether the text begins with a gap; its first letters, so many, are inside, or are a gap."""
        for end in range(size, len(text) + 1):
            is_gap = self._is_gap.get(text[:end])
            # What is neither inside nor a gap is a word, for all that is shorter is inside.
            if is_gap is None:
                return False
            if is_gap:
                return True
        return False


def _free_of_size(left, right):
    """All free texts with as many letters as the sides know, if none has fewer letters."""
    size = len(left.gaps) - 1
    free = []
    for many in range(1, size + 1):
        # Each free text begins with one gap, the head. If what is behind the head has a gap as an end, it is this gap:
        # otherwise the head and the gap alone were a shorter free text. If it has none, it is inside on the right side.
        tails = right.inside[size - many] + right.gaps[size - many]
        for head in left.gaps[many]:
            turned = head[::-1]
            free.extend([(tail + turned)[::-1] for tail in tails if right.leaves(tail + turned, size - many)])
    return free
