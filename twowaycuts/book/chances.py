"""Shares of words, chances of letters, and sums over words."""

from math import gcd

from twowaycuts.base.names import is_integer
from twowaycuts.book.books import check_book
from twowaycuts.errors import InvalidOperation


def share(book):
    """The sum of the shares of the words, a fraction."""
    check_book(book)
    # As numbers of words, each of which counts for its length alone, they are summed fast.
    summed, whole = 0, 1
    for many in many_of_each(book.words):
        summed = summed * len(book.letters) + many
        whole = whole * len(book.letters)
    common = gcd(summed, whole)
    return summed // common, whole // common


def chance(book, chances):
    """The sum of the chances of the words, a fraction."""
    check_book(book)
    check_chances(book.letters, chances)
    return weighted_sum(book.letters, chances, [(word, 1) for word in book.words])


def mean(book, chances):
    """The sum of the lengths of the words, each times the chance of the word, a fraction."""
    check_book(book)
    check_chances(book.letters, chances)
    return weighted_sum(book.letters, chances, [(word, len(word)) for word in book.words])


def numbers(book):
    """The numbers of words with 1, 2, .. letters, up to the longest ones."""
    check_book(book)
    return many_of_each(book.words)


def many_of_each(words):
    """The numbers of words with 1, 2, .. letters; the words are a set in order."""
    many = [0] * (len(words[-1]) if words else 0)
    for word in words:
        many[len(word) - 1] += 1
    return tuple(many)


def check_chances(letters, chances):
    """Raise InvalidOperation unless these are chances for the letters."""
    if not isinstance(chances, tuple) or len(chances) != len(letters):
        raise InvalidOperation("chances are a tuple with one number for each letter")
    if not all([is_integer(number) and number >= 0 for number in chances]) or sum(chances) == 0:
        raise InvalidOperation("chances are integers of at least 0, not all 0")


def weighted_sum(letters, chances, pairs):
    """The sum, over all pairs (text, times), of so many times the chance of the text, a fraction."""
    shorter = _without_common(chances)
    summed = _by_letters(letters, pairs)
    longest = max([sum(counts) for counts in summed], default=0)
    powers = [_powers(number, longest) for number in shorter]
    parts = [0] * (longest + 1)
    for counts in summed:
        parts[sum(counts)] += summed[counts] * _product(powers, counts)
    return _over(parts, sum(shorter))


def _by_letters(letters, pairs):
    # Texts with each letter equally often have the same chance, and large products take long.
    summed = {}
    for text, times in pairs:
        counts = tuple([text.count(letter) for letter in letters])
        summed[counts] = summed.get(counts, 0) + times
    return summed


def _without_common(chances):
    # Smaller numbers tell the same chances, and need much less time.
    common = 0
    for number in chances:
        common = gcd(common, number)
    return [number // common for number in chances]


def _powers(number, most):
    powers = [1]
    for _ in range(most):
        powers.append(powers[-1] * number)
    return powers


def _product(powers, counts):
    product = 1
    for row, many in zip(powers, counts):
        product = product * row[many]
    return product


def _over(parts, total):
    """The sum of all parts, each over the total to the power of its index, in lowest terms."""
    numerator, denominator = parts[0], 1
    for part in parts[1:]:
        numerator = numerator * total + part
        denominator = denominator * total
    common = gcd(numerator, denominator)
    return numerator // common, denominator // common
