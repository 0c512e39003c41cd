"""The errors of the package."""


class BookError(ValueError):
    """An argument is not what it should be."""


class InvalidLetters(BookError):
    """An argument should be letters and is none."""


class InvalidText(BookError):
    """An argument should be a text of the letters and is none."""


class InvalidWord(BookError):
    """An argument should be a word of the letters and is none."""


class InvalidBook(BookError):
    """An argument should be a book and is none."""


class InvalidPlan(BookError):
    """An argument should be a plan and is none."""


class InvalidOperation(BookError):
    """What is asked for cannot be done."""


class ParseError(BookError):
    """A text cannot be read; `index` tells the line."""

    def __init__(self, index):
        self.index = index

    def __str__(self):
        return f"line {self.index}"


class InvalidNumber(IndexError):
    """An argument should be a number, a size or an index, and `value` is none."""

    def __init__(self, value):
        self.value = value

    def __str__(self):
        return repr(self.value)


class TooMany(OverflowError):
    """There would be more than `limit`."""

    def __init__(self, limit):
        self.limit = limit

    def __str__(self):
        return f"more than {self.limit}"


class NothingToUndo(LookupError):
    """Fewer than `many` calls can be undone or done again."""

    def __init__(self, many):
        self.many = many

    def __str__(self):
        return f"fewer than {self.many}"


class Clash(ArithmeticError):
    """The word `one` is a beginning or an end of the word `other`."""

    def __init__(self, one, other):
        self.one = one
        self.other = other

    def __str__(self):
        return f"{self.one} begins or ends {self.other}"


class NotFull(ArithmeticError):
    """A book is not full; `text` is its first free text."""

    def __init__(self, text):
        self.text = text

    def __str__(self):
        return f"free: {self.text}"
