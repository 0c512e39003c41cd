"""Plans: some words and a degree, of which a full book may come; and the flaws of plans."""

from twowaycuts.base.names import check_number, check_text, check_word, ordered_words
from twowaycuts.book.books import MAX_WORDS, Book, do_clash, first_clash
from twowaycuts.book.finds import unended
from twowaycuts.book.full import is_full
from twowaycuts.errors import InvalidOperation, InvalidPlan, TooMany

MAX_DEGREE = 400


class Plan:
    """A set of at most MAX_WORDS words, which can clash, and a degree; it never changes."""

    def __init__(self, letters, words, degree):
        different = ordered_words(letters, words)
        check_number(degree, 1, MAX_DEGREE)
        if len(different) > MAX_WORDS:
            raise TooMany(MAX_WORDS)
        self._letters = letters
        self._words = different
        self._degree = degree

    @property
    def letters(self):
        """The letters, a string."""
        return self._letters

    @property
    def words(self):
        """The set of the words, a tuple."""
        return self._words

    @property
    def degree(self):
        """The degree, an integer."""
        return self._degree

    def count(self, text):
        """M of the text: the number of its beginnings that no word ends."""
        check_text(self._letters, text)
        return unended(self._words, [text])[0]

    def __len__(self):
        return len(self._words)

    def __eq__(self, other):
        if not isinstance(other, Plan) or self._letters != other._letters:
            return False
        return self._words == other._words and self._degree == other._degree

    def __str__(self):
        return f"plan of {len(self._words)} words, degree {self._degree}"

    def with_word(self, word):
        """The plan with one word more."""
        check_word(self._letters, word)
        if word in self._words:
            raise InvalidOperation("the word is in the plan")
        return Plan(self._letters, self._words + (word,), self._degree)

    def without_word(self, word):
        """The plan with one word less."""
        check_word(self._letters, word)
        if word not in self._words:
            raise InvalidOperation("the word is not in the plan")
        return Plan(self._letters, tuple([kept for kept in self._words if kept != word]), self._degree)

    def of_degree(self, degree):
        """The plan with another degree."""
        return Plan(self._letters, self._words, degree)


def first_flaw(plan):
    """The first flaw of the plan, or None."""
    check_plan(plan)
    clash = first_clash(plan.words)
    if clash is not None:
        return ("clash", clash[0], clash[1])
    for word, many in zip(plan.words, unended(plan.words, plan.words)):
        if many >= plan.degree:
            return ("ways", word)
    return ("full",) if _is_full_set(plan) else None


def is_flaw(plan, value):
    """Whether the value is a flaw of the plan."""
    check_plan(plan)
    if not isinstance(value, tuple) or not all([isinstance(part, str) for part in value]):
        return False
    if len(value) == 3:
        return value[0] == "clash" and _do_clash_in_order(plan, value[1], value[2])
    # The other flaws are none if two words clash.
    if first_clash(plan.words) is not None:
        return False
    if len(value) == 2:
        return value[0] == "ways" and value[1] in plan.words and plan.count(value[1]) >= plan.degree
    return value == ("full",) and _is_full_set(plan)


def check_plan(plan):
    """Raise InvalidPlan unless this is a plan."""
    if not isinstance(plan, Plan):
        raise InvalidPlan("a plan is wanted")


def _do_clash_in_order(plan, one, other):
    # Of two different words that clash one is shorter, and so comes ahead.
    return one in plan.words and other in plan.words and len(one) < len(other) and do_clash(one, other)


def _is_full_set(plan):
    return is_full(Book(plan.letters, plan.words))
