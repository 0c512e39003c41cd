"""What becomes of a plan: a flaw, a ring, or a book."""

from twowaycuts.base.names import is_text
from twowaycuts.book.books import MAX_WORDS, Book
from twowaycuts.book.finds import unended
from twowaycuts.errors import InvalidOperation, TooMany
from twowaycuts.plan.plans import check_plan, first_flaw, is_flaw
from twowaycuts.plan.reader import Reader
from twowaycuts.plan.rounds import find_round, lasting


def outcome(plan):
    """What there is: "flaw", "ring" or "book"."""
    check_plan(plan)
    if first_flaw(plan) is not None:
        return "flaw"
    return "ring" if lasting(Reader(plan.letters, plan.words)) else "book"


def find_ring(plan):
    """A ring, as a pair of texts, or None."""
    check_plan(plan)
    return _ring(plan, Reader(plan.letters, plan.words)) if first_flaw(plan) is None else None


def is_ring(plan, value):
    """Whether the value is a ring of the plan."""
    check_plan(plan)
    if not isinstance(value, tuple) or len(value) != 2 or not all([is_text(plan.letters, part) for part in value]):
        return False
    ahead, again = value
    if again == "" or first_flaw(plan) is not None:
        return False
    # No word goes back over more than so many rounds. So M grows with all further ones if it grows with the next one.
    longest = len(plan.words[-1]) if plan.words else 0
    text = ahead + again * (longest // len(again) + 1)
    many, further = unended(plan.words, [text, text + again])
    return many == further and many < plan.degree


def book_of(plan):
    """The book of the plan."""
    told = paper(plan)
    if told[0] != "book":
        raise InvalidOperation("there is no book of this plan")
    return Book(plan.letters, told[1])


def book_or_ring(letters, words, degree):
    """The book of a plan that surely has no flaw, or None if there is a ring; TooMany if it would be too great."""
    reader = Reader(letters, words)
    if lasting(reader):
        return None
    told = _words(letters, degree, reader)
    if told is None:
        raise TooMany(MAX_WORDS)
    return Book(letters, told)


def paper(plan):
    """A flaw, a ring or the words of the book, each behind the word that tells which one it is."""
    check_plan(plan)
    flaw = first_flaw(plan)
    if flaw is not None:
        return ("flaw", flaw)
    reader = Reader(plan.letters, plan.words)
    ring = _ring(plan, reader)
    if ring is not None:
        return ("ring", ring[0], ring[1])
    words = _words(plan.letters, plan.degree, reader)
    if words is None:
        raise TooMany(MAX_WORDS)
    return ("book", words)


def is_paper(plan, value):
    """Whether the value is a paper of the plan."""
    check_plan(plan)
    if not isinstance(value, tuple) or len(value) < 2:
        return False
    if value[0] == "flaw":
        return len(value) == 2 and is_flaw(plan, value[1])
    if value[0] == "ring":
        return is_ring(plan, value[1:])
    if value[0] != "book" or len(value) > 2 or first_flaw(plan) is not None:
        return False
    reader = Reader(plan.letters, plan.words)
    words = _words(plan.letters, plan.degree, reader) if not lasting(reader) else None
    return words is not None and value[1] == words


def _ring(plan, reader):
    """A ring of a plan without a flaw, or None."""
    steps = lasting(reader)
    if not steps:
        return None
    # M of each head is less than the degree: a head is a beginning of a word, and there is no flaw.
    state, again = find_round(plan.letters, reader, steps)
    return reader.heads[state], again


def _words(letters, degree, reader):
    """The set of the words of the book of a plan that has one, or None if there are more than MAX_WORDS."""
    # The texts of all rows are in order, so that the words are found in order.
    more = len(letters) - 1
    words = []
    inner = [("", (0, 1), None)]
    heads = 1
    # Each head, a text that begins words but has no word as a beginning, makes so many words more. Over two letters or
    # three a word of more than MAX_WORD letters makes too many heads, over one letter it is as long as the degree.
    while inner and 1 + more * heads <= MAX_WORDS:
        further = []
        for text, place, rest in list(inner):
            for at, letter in enumerate(letters):
                # The state and M of the text with the letter, and of what is behind its first letter.
                whole = reader.behind(place, at)
                behind = (0, 1) if rest is None else reader.behind(rest, at)
                # A word is a beginning of the text as soon as L is the same without the first letter.
                if min(degree, whole[1]) == min(degree, behind[1]):
                    words.append(text + letter)
                else:
                    further.append((text + letter, whole, behind))
        inner = further
        heads += len(inner)
    return tuple(words) if not inner else None
