"""Values that several tests use: the books of the document, wrong values, slow but plain answers."""

from itertools import product

from twowaycuts.book.books import Book
from twowaycuts.desk.desk import Desk
from twowaycuts.errors import Clash, TooMany
from twowaycuts.plan.plans import Plan
from twowaycuts.row.mirrors import MirrorRow
from twowaycuts.row.turnings import Turning
from twowaycuts.text.shell import Shell

PAIRS = Book("ab", ("aa", "ab", "ba", "bb"))
NINE = Book("ab", ("ab", "aaa", "baa", "bba", "bbb", "aaba", "aabb", "baba", "babb"))
FEW = Book("ab", ("ab", "ba"))
PLAN = Plan("ab", ("ab",), 3)


def nested(value, depth):
    """The value within so many tuples, lists and dicts."""
    for level in range(depth):
        value = [(value,), [value], {"a": value}][level % 3]
    return value


# One or more of each kind that [0.4] lists; none of them is letters, a text, a word, a book or a tuple of such.
STRANGE = [
    0, 1, -1, 2, 10 ** 200 - 1, 10 ** 200, -10 ** 200, 10 ** 300 - 1, -(10 ** 300 - 1),
    True, False, None,
    "A", "AB", "ab ", " ", "a\nb", "\n", "ab\n", "a" * 3999 + "~", "0", "aB", "_", "(", "a,b", "-",
    (1,), (None,), ("a", 1), ((),), [], [1], ["a"], ["a", "b"], {}, {"a": 1}, {"a": ()}, {1: "a"},
    nested(1, 10), nested("a", 10), nested(None, 9), nested((), 8),
    PAIRS, NINE, FEW, Book("a", ()), PLAN, Plan("a", (), 1), TooMany(400), Clash("a", "ab"),
    Desk(NINE), Shell("letters ab"), MirrorRow("ab", "b", "ab"), Turning("a", {"a": (0,)}),
]


def of_other_kind(kind):
    """The strange values that are not of this kind."""
    return [value for value in STRANGE if not isinstance(value, kind)]


NO_STRINGS = of_other_kind(str)
NO_TUPLES = of_other_kind(tuple)
NO_BOOKS = of_other_kind(Book) + ["", "ab", ("ab", "ba"), ("ab", ("ab", "ba"))]
NO_PLANS = of_other_kind(Plan) + ["", "ab", ("ab",), (("ab",), 3), ("ab", ("ab",), 3), {"ab": 3}]
NO_ROWS = of_other_kind(MirrorRow) + ["", "ab", ("ab", "", "ab"), {"ab": "ab"}, {"a": (0,), "b": (0,)}]
NO_TURNINGS = of_other_kind(Turning) + ["ab", {"a": (0,), "b": (0,)}, ("ab", {"a": (0,), "b": (0,)})]
NO_LETTERS = STRANGE + ["", "ba", "aa", "abb", "abcd", "cab", "acb", "a b", "a" * 4000, ("a", "b")]


def no_texts(letters):
    """Values that are no texts of the letters."""
    others = "".join([sign for sign in "abcdz" if sign not in letters])
    return STRANGE + [others[0], letters + others[0], others[0] + letters, letters[0] * 4001, ("a",)]


def no_words(letters):
    """Values that are no words of the letters."""
    return no_texts(letters) + ["", letters[0] * 401, letters[0] * 4000]


def all_texts(letters, longest):
    """All texts up to a length, in order."""
    return ["".join(signs) for size in range(longest + 1) for signs in product(letters, repeat=size)]


def comparable(one, other):
    """Whether one of two texts is a beginning or an end of the other one."""
    short, long = sorted([one, other], key=len)
    return long[:len(short)] == short or long[len(long) - len(short):] == short


def all_books(letters, longest, most):
    """All books over some letters with words up to a length, at most so many words."""
    words = all_texts(letters, longest)[1:]
    rows = [()]
    for row in rows:
        yield Book(letters, row)
        if len(row) < most:
            first = words.index(row[-1]) + 1 if row else 0
            rows.extend(row + (word,) for word in words[first:]
                        if not any(comparable(word, other) for other in row))


def numbered(many, size):
    """So many different texts over "ab" with so many letters: numbers, written with two letters."""
    return [format(number, "b").zfill(size).replace("0", "a").replace("1", "b") for number in range(many)]


def spread(many):
    """So many different words of 400 letters over "ab" that have little in common."""
    seed, words = 1, []
    for _ in range(many):
        signs = []
        for _ in range(400):
            seed = seed * 6364136223846793005 % 2 ** 64 + 1442695040888963407
            signs.append("ab"[seed >> 40 & 1])
        words.append("".join(signs))
    return words


# A book as great as can be: 400 words of 400 letters, which begin and end alike.
ALIKE = Book("ab", tuple("a" * 190 + middle + "b" * 190 for middle in numbered(400, 20)))
# Another one, with words that differ soon.
SPREAD = Book("ab", tuple(spread(400)))
# And one with all lengths up to 400; but for "a" its words begin and end with "b".
THIN = Book("ab", ("a",) + tuple("b" + "a" * many + "b" for many in range(399)))


def row_brute(book, text):
    """A row of words that is the text, by trying all words at each index, or None."""
    rows = {0: ()}
    for index in range(len(text)):
        for word in book.words:
            if index in rows and text[index:index + len(word)] == word:
                rows[index + len(word)] = rows[index] + (word,)
    return rows.get(len(text))


def cuts_brute(book, text):
    """All cuts (v, words, u) of the text, just as [0.9] tells them, by the lengths of v and u."""
    found = []
    for start in range(len(text) + 1):
        for end in range(start, len(text) + 1):
            ahead, behind = text[:start], text[end:]
            row = row_brute(book, text[start:end])
            if row is not None and not any(ahead.endswith(word) or behind.startswith(word) for word in book.words):
                found.append((ahead, row, behind))
    return found
