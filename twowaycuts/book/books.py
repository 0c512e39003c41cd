"""Books: sets of words no two of which clash."""

from twowaycuts.base.names import MAX_WORD, check_letters, check_number, check_text, check_word, ordered_words
from twowaycuts.errors import Clash, InvalidBook, InvalidOperation, TooMany

MAX_WORDS = 400


class Book:
    """A set of at most MAX_WORDS words over some letters; it never changes."""

    def __init__(self, letters, words):
        different = ordered_words(letters, words)
        if len(different) > MAX_WORDS:
            raise TooMany(MAX_WORDS)
        clash = first_clash(different)
        if clash is not None:
            raise Clash(clash[0], clash[1])
        self._letters = letters
        self._words = different
        # For quick answers of `in`; the order of the words is told by the tuple.
        self._known = {word: True for word in different}

    @classmethod
    def uniform(cls, letters, size):
        """The book of all words with so many letters."""
        check_letters(letters)
        check_number(size, 1, MAX_WORD)
        words = [""]
        for _ in range(size):
            words = [word + letter for word in words for letter in letters]
            if len(words) > MAX_WORDS:
                raise TooMany(MAX_WORDS)
        return cls(letters, tuple(words))

    @property
    def letters(self):
        """The letters, a string."""
        return self._letters

    @property
    def words(self):
        """The set of the words, a tuple."""
        return self._words

    @property
    def longest(self):
        """The greatest length of a word, 0 if there is none."""
        # The words ascend by their lengths.
        return len(self._words[-1]) if self._words else 0

    def __contains__(self, value):
        return isinstance(value, str) and value in self._known

    def __getitem__(self, index):
        check_number(index, 0, len(self._words) - 1)
        return self._words[index]

    def __len__(self):
        return len(self._words)

    def __iter__(self):
        return iter(self._words)

    def __eq__(self, other):
        return isinstance(other, Book) and self._letters == other._letters and self._words == other._words

    def __str__(self):
        return f"book of {len(self._words)} words over {self._letters}"

    def with_word(self, word):
        """The book with one word more."""
        check_word(self._letters, word)
        if word in self._known:
            raise InvalidOperation("the word is in the book")
        return Book(self._letters, self._words + (word,))

    def without_word(self, word):
        """The book with one word less."""
        check_word(self._letters, word)
        if word not in self._known:
            raise InvalidOperation("the word is not in the book")
        return Book(self._letters, tuple([kept for kept in self._words if kept != word]))

    def __mul__(self, other):
        if not isinstance(other, Book) or self._letters != other._letters:
            raise InvalidOperation("both have to be books with the same letters")
        # Different pairs make different words, for no word begins another one.
        if len(self._words) * len(other._words) > MAX_WORDS:
            raise TooMany(MAX_WORDS)
        # A book without words makes no long ones, and its longest is 0.
        if self.longest + other.longest > MAX_WORD:
            raise TooMany(MAX_WORD)
        return Book(self._letters, tuple([word + behind for word in self._words for behind in other._words]))

    def __rmul__(self, other):
        # Python comes here only if what stands on the left is no book.
        raise InvalidOperation("both have to be books with the same letters")


def can_stand(book, text):
    """Whether a text, of whatever length, could be a further word."""
    check_book(book)
    check_text(book.letters, text)
    # The empty text is a beginning of each word, but a book can be without words.
    return text != "" and not any([do_clash(word, text) for word in book.words])


def check_book(book):
    """Raise InvalidBook unless this is a book."""
    if not isinstance(book, Book):
        raise InvalidBook("a book is wanted")


def first_clash(words):
    """The first two words that clash, as a pair, or None; the words are a set in order."""
    if not _some_begins(words) and not _some_begins([word[::-1] for word in words]):
        return None
    for at, one in enumerate(words):
        for other in words[at + 1:]:
            if do_clash(one, other):
                return (one, other)
    return None


def _some_begins(words):
    # In Python's order the words that begin with a word stand right behind it.
    rows = sorted(words)
    return any([behind.startswith(word) for word, behind in zip(rows, rows[1:])])


def do_clash(one, other):
    """Whether one of two texts is a beginning or an end of the other one."""
    if len(one) > len(other):
        return one.startswith(other) or one.endswith(other)
    return other.startswith(one) or other.endswith(one)
