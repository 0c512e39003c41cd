"""[22.1] to [22.5] and stage 22: webs of words."""

import random
import unittest
from itertools import combinations, product

from tests.fullbooks import FULL, SMALL_FULL, plain_degree
from tests.mirrored import GOLD, ROWS
from tests.refused import Refusing, error_of
from tests.samples import FEW, NINE, NO_LETTERS, NO_TUPLES, STRANGE, all_texts, comparable, no_words
from tests.test_turnings import NO_SIGNED, THREE, all_turnings
from twowaycuts.book.books import Book
from twowaycuts.errors import InvalidLetters, InvalidOperation, InvalidText, InvalidWord, TooMany
from twowaycuts.row.meets import free_forks, words_standing
from twowaycuts.row.turnings import Turning, first_returns
from twowaycuts.row.webs import (MAX_BASE, hole, index_of, is_hole, is_relation, is_spelling, relation, spelling, told_by,
                                 turning_of, web)

FOUR = words_standing(NINE, GOLD)
# Small tuples of words: none, one twice, other orders, with and without relations.
SMALL = [("ab", words) for many in range(4) for words in combinations(all_texts("ab", 3)[1:], many)]
SMALL += [("ab", words) for words in product(("a", "ab", "bb", "aba"), repeat=3)]
SMALL += [("a", words) for words in product(("a", "aa", "aaa", "aaaaa"), repeat=2)] + [("a", ()), ("a", ("aaaa",))]
SMALL += [("abc", words) for words in combinations(("a", "ab", "ca", "bc", "cab", "bbc", "cc"), 3)]
SMALL += [("abc", tuple(words)) for words in (("a", "b", "c"), ("ab", "bc", "ca"), ("aa", "ab", "ac", "ba", "ca"))]
SMALL += [("ab", FOUR), ("ab", FOUR[::-1]), ("ab", FOUR + FOUR), ("ab", FEW.words)]
NO_SPELLINGS = STRANGE + [
    ((2, 1),), ((-1, 1),), ((0, 0),), ((0, 2),), ((0, -2),), ((0, True),), ((True, 1),), ((False, 1),), ((0, 1, 1),),
    ((0,),), (0, 1), ([0, 1],), [(0, 1)], ((0, 1), (0, -1)), ((0, -1), (0, 1)), ((1, 1), (0, 1), (0, -1)), ((0, "1"),),
    ((0, None),), (("a", 1),), "ab", ((0, 1), None), ((0, 10 ** 250),), ((10 ** 250, 1),), {(0, 1): 1}, ((0, -10 ** 299),)]


def plain_points(letters, words):
    """The web, laid together by hand: the steps between points, told by their first open texts."""
    edges, many = set(), 1
    for word in words:
        points = [0] + list(range(many, many + len(word) - 1)) + [0]
        many += len(word) - 1
        edges |= {(points[at], word[at], points[at + 1]) for at in range(len(word))}
    while True:
        same = None
        for (one, letter, two), (other, again, three) in combinations(sorted(edges), 2):
            if letter == again and one == other and two != three:
                same = two, three
            if letter == again and two == three and one != other:
                same = one, other
        if same is None:
            break
        low, high = min(same), max(same)
        edges = {(low if one == high else one, letter, low if two == high else two) for one, letter, two in edges}
    steps = {}
    for one, letter, two in edges:
        steps.setdefault(one, {})[letter] = two
        steps.setdefault(two, {})[letter.upper()] = one
    return steps or {0: {}}, len(edges)


def plain_numbers(letters, steps):
    """The points in order, each with its first open text."""
    first, level = {0: ""}, [0]
    while level:
        further = []
        for point in level:
            for sign in letters + letters.upper():
                if sign in steps[point] and steps[point][sign] not in first:
                    first[steps[point][sign]] = first[point] + sign
                    further.append(steps[point][sign])
        level = further
    return first


def plain_web(letters, words):
    steps, _ = plain_points(letters, words)
    order = list(plain_numbers(letters, steps))
    return {letter: tuple(order.index(steps[point][letter]) if letter in steps[point] else None for point in order)
            for letter in letters}


def plain_told(words, value):
    text = "".join(words[index] if sign == 1 else words[index][::-1].upper() for index, sign in value)
    return plain_short(text)


def plain_short(text):
    """The shortened text, by letters taken out one pair after another."""
    out = []
    for sign in text:
        if out and out[-1] != sign and out[-1].lower() == sign.lower():
            out.pop()
        else:
            out.append(sign)
    return "".join(out)


def plain_walk(letters, words, text):
    """The point to which an open text leads, or None."""
    steps, _ = plain_points(letters, words)
    point = 0
    for sign in text:
        point = steps[point].get(sign) if point is not None else None
    return point


def signed_texts(letters, longest):
    """All shortened signed texts up to a length."""
    texts = ["".join(signs) for size in range(longest + 1) for signs in product(letters + letters.upper(), repeat=size)]
    return [text for text in texts if plain_short(text) == text]


def all_spellings(many, longest):
    """All spellings of so many words, up to a length."""
    pairs = [(index, sign) for index in range(many) for sign in (1, -1)]
    rows = [()]
    for row in rows:
        if len(row) < longest:
            rows.extend(row + (pair,) for pair in pairs if not row or row[-1] != (pair[0], -pair[1]))
    return rows


class Examples(unittest.TestCase):
    def test_first(self):
        told = [web("ab", FOUR), index_of("ab", FOUR), turning_of("ab", FOUR) == THREE, relation("ab", FOUR),
                hole("ab", FOUR), index_of("ab", FEW.words), web("ab", FEW.words)]
        self.assertEqual(told, [{"a": (1, 2, 0), "b": (1, 0, 2)}, 3, True, None, None, None,
                                {"a": (1, None, 0), "b": (2, 0, None)}])

    def test_second(self):
        told = [spelling("ab", FEW.words, "abAB"), spelling("ab", FEW.words, "aB"),
                told_by("ab", FOUR, ((0, 1), (1, -1))), spelling("ab", FOUR, "abAAB"), is_hole("ab", FEW.words, "aa"),
                is_hole("ab", FEW.words, "ab"), is_relation("ab", ("a", "aa"), ((0, 1), (0, 1), (1, -1)))]
        self.assertEqual(told, [((0, 1), (1, -1)), None, "abAAB", ((0, 1), (1, -1)), True, False, True])

    def test_constant(self):
        self.assertEqual(MAX_BASE, 60)


class Webs(unittest.TestCase, Refusing):
    def test_small_tuples(self):
        for letters, words in SMALL:
            told = web(letters, words)
            wanted = plain_web(letters, words)
            self.assertEqual((told, list(told)), (wanted, list(letters)), words)
            many = len(wanted[letters[0]])
            if any(None in row for row in wanted.values()):
                self.assertIsNone(index_of(letters, words))
                self.check_error(turning_of, (letters, words), InvalidOperation)
            else:
                self.assertEqual(index_of(letters, words), many)
                turning = turning_of(letters, words)
                self.assertEqual((turning, len(turning)), (Turning(letters, wanted).in_order(), many))

    def test_order_and_repetition(self):
        chance = random.Random(22)
        for letters, words in SMALL[::5]:
            for _ in range(3):
                other = list(words) + [word for word in words if chance.randrange(2)]
                chance.shuffle(other)
                self.assertEqual(web(letters, tuple(other)), web(letters, words))

    def test_points_by_first_open_texts(self):
        # Letters come ahead of capitals, short texts ahead of long ones.
        self.assertEqual(web("ab", ("bba",)), {"a": (None, None, 0), "b": (1, 2, None)})
        self.assertEqual(web("ab", ("abb",)), {"a": (1, None, None), "b": (None, 2, 0)})
        self.assertEqual(web("ab", ("aaaa",)), {"a": (1, 3, 0, 2), "b": (None,) * 4})
        self.assertEqual(web("abc", ("cba",)), {"a": (None, None, 0), "b": (None, 2, None), "c": (1, None, None)})
        self.assertEqual(web("ab", ()), {"a": (None,), "b": (None,)})
        self.assertEqual(web("a", ("aaaa", "aa")), {"a": (1, 0)})

    def test_random_words(self):
        for seed in range(60):
            chance = random.Random(seed)
            letters = chance.choice(["ab", "abc"])
            words = tuple("".join(chance.choice(letters) for _ in range(chance.randrange(1, 6)))
                          for _ in range(chance.randrange(1, 6)))
            self.assertEqual(web(letters, words), plain_web(letters, words), words)
            steps, edges = plain_points(letters, words)
            self.assertIs(relation(letters, words) is None, edges - len(steps) + 1 == len(words))

    def test_open_texts_by_told_texts(self):
        # Each text that the web leads on begins a told text, and two texts lead to one point as [22.2] says.
        for letters, words in (("ab", ("ab", "ba")), ("ab", ("aa", "ab")), ("ab", ("aab", "b")), ("ab", ("a", "bab")),
                               ("ab", ("aa", "bb", "abab"))):
            told = {plain_told(words, value) for value in all_spellings(len(words), 6)}
            opened = {text[:at] for text in told for at in range(len(text) + 1)}
            points = {}
            for text in signed_texts(letters, 3):
                self.assertIs(is_hole(letters, words, text), text not in opened, (words, text))
                if text in opened:
                    points[text] = plain_walk(letters, words, text)
            for one in points:
                for other in points:
                    same = plain_short(one + other[::-1].swapcase()) in told
                    self.assertIs(points[one] == points[other], same, (words, one, other))

    def test_turnings(self):
        for many in (59, 60):
            self.assertEqual(index_of("a", ("a" * many,)), many)
            self.assertEqual(len(turning_of("a", ("a" * many,))), many)
        self.assertEqual(index_of("a", ("a" * 61,)), 61)
        self.check_error(turning_of, ("a", ("a" * 61,)), TooMany, {"limit": 60})
        self.check_error(turning_of, ("a", ("a" * 400,)), TooMany, {"limit": 60})
        self.check_error(turning_of, ("ab", ("a" * 400,)), InvalidOperation)
        self.check_error(turning_of, ("ab", ()), InvalidOperation)
        # Over two letters an index of 60 takes 61 words: so no more than 60 words have a greater one.
        words = ("a" * 59,) + tuple("a" * at + "b" + "a" * (58 - at) for at in range(59))
        self.assertEqual((len(words), index_of("ab", words), len(turning_of("ab", words))), (60, 59, 59))
        words = ("a" * 61, "b") + tuple("a" * at + "b" + "a" * (61 - at) for at in range(1, 59))
        self.assertEqual((index_of("ab", words), len(web("ab", words)["a"])), (None, 61))
        self.check_error(turning_of, ("ab", words), InvalidOperation)
        words = ("aa", "b" * 20, "ba", "ab")
        self.assertEqual(index_of("ab", words), len(plain_web("ab", words)["a"]))

    def test_long_words(self):
        chance = random.Random(400)
        words = tuple("".join(chance.choice("ab") for _ in range(400)) for _ in range(60))
        told = web("ab", words)
        self.assertGreater(len(told["a"]), 60 * 380)
        self.assertIsNone(index_of("ab", words))
        self.assertIsNone(relation("ab", words))
        text = hole("ab", words)
        self.assertTrue(is_hole("ab", words, text))
        self.assertFalse(is_hole("ab", words, text[:-1]))
        row = tuple((chance.randrange(60), 1) for _ in range(10))
        self.assertEqual(spelling("ab", words, plain_told(words, row)), row)
        self.assertTrue(is_spelling("ab", words, plain_told(words, row), row))


class Relations(unittest.TestCase, Refusing):
    def test_small_tuples(self):
        for letters, words in SMALL:
            steps, edges = plain_points(letters, words)
            told = relation(letters, words)
            if edges - len(steps) + 1 == len(words):
                self.assertIsNone(told, words)
                for value in all_spellings(len(words), 3):
                    self.assertIs(is_relation(letters, words, value), False)
            else:
                self.assertIs(is_relation(letters, words, told), True, (words, told))
                self.assertEqual(plain_told(words, told), "")

    def test_judged(self):
        for letters, words in SMALL[::4]:
            for value in all_spellings(len(words), 4 if len(words) < 3 else 3):
                self.assertIs(is_relation(letters, words, value), value != () and plain_told(words, value) == "")
            for value in NO_SPELLINGS + [(), ((len(words), 1), (len(words), -1))]:
                self.assertIs(is_relation(letters, words, value), False)
        words = ("a", "aa", "a")
        for value, wanted in ((((0, 1), (2, -1)), True), (((2, -1), (0, 1)), True), (((0, 1), (0, 1), (1, -1)), True),
                              (((0, 1), (2, 1), (1, -1)), True), (((0, True), (2, -1)), False), (((0, 1), (0, -1)), False),
                              (((0, 1), (1, -1), (2, 1)), True), (((0, 1), (2, 1)), False), ([(0, 1), (2, -1)], False),
                              (((False, 1), (2, -1)), False), (((0, 1), [2, -1]), False)):
            self.assertIs(is_relation("ab", words, value), wanted, value)

    def test_the_same_word(self):
        self.assertTrue(is_relation("ab", ("ab", "ab"), relation("ab", ("ab", "ab"))))
        self.assertIsNone(relation("ab", ("ab",)))
        self.assertIsNone(relation("ab", ()))
        self.assertIsNotNone(relation("a", ("aa", "aaa")))
        words = tuple(["ab"] * 60)
        self.assertTrue(is_relation("ab", words, relation("ab", words)))


class Holes(unittest.TestCase, Refusing):
    def test_small_tuples(self):
        for letters, words in SMALL:
            told = hole(letters, words)
            self.assertIs(told is None, index_of(letters, words) is not None, words)
            steps, _ = plain_points(letters, words)
            if told is not None:
                self.assertIs(is_hole(letters, words, told), True)
                self.assertEqual(plain_short(told), told)
                self.assertIsNone(plain_walk(letters, words, told))
            for text in signed_texts(letters, 2):
                self.assertIs(is_hole(letters, words, text), plain_walk(letters, words, text) is None, (words, text))

    def test_judged(self):
        for letters, words in SMALL[::9]:
            for value in NO_SIGNED + [None, (), ("a",)]:
                if letters == "ab":
                    self.assertIs(is_hole(letters, words, value), False)
            for text in ("aA", "Aa", "aaA", "aAa" + "b"):
                self.assertIs(is_hole(letters, words, text), False)
        for text, wanted in (("aa", True), ("bb", True), ("aB", True), ("abb", False), ("abbb", True), ("BA", False),
                             ("BB", True), ("AB", False), ("", False), ("aA", False), ("aAaa", False), ("a" * 4000, True),
                             ("ab" * 2000, False), ("a" * 4001, False), ("ab" * 1999 + "aa", True)):
            self.assertIs(is_hole("ab", FEW.words, text), wanted, text[:9])


class Spellings(unittest.TestCase, Refusing):
    def test_small_tuples(self):
        for letters, words in SMALL[::2]:
            steps, _ = plain_points(letters, words)
            for text in signed_texts(letters, 3)[::2]:
                told = spelling(letters, words, text)
                if plain_walk(letters, words, text) == 0:
                    self.assertIs(is_spelling(letters, words, text, told), True, (words, text, told))
                    self.assertEqual(plain_told(words, told), text)
                    self.assertEqual(told_by(letters, words, told), text)
                else:
                    self.assertIsNone(told)
            for value in all_spellings(len(words), 2):
                text = plain_told(words, value)
                self.assertEqual(told_by(letters, words, value), text)
                self.assertIs(is_spelling(letters, words, text, value), True)
                other = spelling(letters, words, text)
                self.assertEqual(plain_told(words, other), text)
                if relation(letters, words) is None:
                    self.assertEqual(other, value)

    def test_texts_that_are_not_shortened(self):
        self.assertEqual(spelling("ab", FEW.words, "aAabBb"), ((0, 1),))
        self.assertEqual(spelling("ab", FEW.words, "aAbB"), ())
        self.assertEqual(spelling("ab", (), "aAbB"), ())
        self.assertIsNone(spelling("ab", (), "a"))
        self.assertIs(is_spelling("ab", FEW.words, "aAabBb", ((0, 1),)), True)
        self.assertIs(is_spelling("ab", FEW.words, "aA", ()), True)
        self.assertIs(is_spelling("ab", (), "", ()), True)
        self.assertIs(is_spelling("ab", (), "a", ()), False)

    def test_judged(self):
        words = ("ab", "ab", "ba", "abba")
        for value, wanted in ((((0, 1), (2, 1)), True), (((1, 1), (2, 1)), True), (((3, 1),), True), (((0, 1), (2, -1)), False),
                              (((0, True), (2, 1)), False), ([(0, 1), (2, 1)], False), ((), False), (None, False),
                              (((0, 1), (1, -1), (3, 1)), True), (((0, 1), (0, -1), (3, 1)), False),
                              (((0, 1), (2, 1), (4, 1)), False), (((False, 1), (2, 1)), False)):
            self.assertIs(is_spelling("ab", words, "abba", value), wanted, value)
            if wanted:
                self.assertEqual(told_by("ab", words, value), "abba")
        for value in NO_SPELLINGS:
            self.assertIs(is_spelling("ab", FEW.words, "ab", value), False)
            self.assertIs(is_relation("ab", FEW.words, value), False)
        for letters, some in SMALL[::11]:
            texts = signed_texts(letters, 2)
            for value in all_spellings(len(some), 2):
                for text in texts:
                    self.assertIs(is_spelling(letters, some, text, value), plain_told(some, value) == text)

    def test_long_texts(self):
        for letters, words in (("ab", FOUR), ("ab", FEW.words), ("ab", ("a", "b")), ("ab", ("aa", "aaa", "b"))):
            chance = random.Random(4)
            row, text = (), ""
            while len(text) < 3990:
                pair = (chance.randrange(len(words)), chance.choice((1, -1)))
                if not row or row[-1] != (pair[0], -pair[1]):
                    row, text = row + (pair,), plain_told(words, row + (pair,)) if len(row) < 20 else plain_short(
                        text + plain_told(words, (pair,)))
            told = spelling(letters, words, text)
            self.assertIs(is_spelling(letters, words, text, told), True)
            self.assertEqual(told_by(letters, words, told), text)
            self.assertIs(is_spelling(letters, words, text, row), True)
            if words != ("aa", "aaa", "b"):
                self.assertEqual(told, row)
        self.assertEqual(spelling("ab", ("a", "b"), "aB" * 2000), ((0, 1), (1, -1)) * 2000)
        self.assertEqual(spelling("ab", ("a", "b"), "aA" * 2000), ())
        # A spelling can tell a text of more than 4000 signs.
        self.assertEqual(told_by("a", ("a" * 400,), ((0, 1),) * 30), "a" * 12000)
        self.assertIs(is_spelling("a", ("a" * 400,), "a" * 4000, ((0, 1),) * 10), True)
        self.assertIs(is_spelling("a", ("a" * 400,), "a" * 4000, ((0, 1),) * 30), False)
        powers = ("a" * 233, "a" * 144)
        self.assertIs(is_spelling("ab", powers, "a" * 5, spelling("ab", powers, "a" * 5)), True)
        self.assertIs(is_relation("ab", powers, relation("ab", powers)), True)

    def test_spellings_do_not_become_long(self):
        # Parts of a row have many relations; taken in a bad order these make spellings of many thousand pairs.
        for letters in ("ab", "abc"):
            for seed, row in enumerate(ROWS[letters][:3]):
                chance = random.Random(seed)
                start = row.start(4000)
                words = tuple(start[at:at + chance.randrange(5, 61)] for at in chance.sample(range(3900), 20))
                told = relation(letters, words)
                self.assertTrue(told is None or is_relation(letters, words, told) and len(told) < 500)
                for sign in letters:
                    pairs = spelling(letters, words, sign)
                    self.assertTrue(pairs is None or plain_told(words, pairs) == sign and len(pairs) < 500)

    def test_wrong_spellings(self):
        for value in NO_SPELLINGS:
            self.check_error(told_by, ("ab", FEW.words, value), InvalidOperation)
        self.check_error(told_by, ("ab", (), ((0, 1),)), InvalidOperation)
        self.assertEqual(told_by("ab", (), ()), "")


class Refused(unittest.TestCase, Refusing):
    def test_words(self):
        many = tuple(["ab"] * 61)
        wrong = NO_TUPLES + [many, ("",) * 61, (None,) * 61, many * 5]
        bad = [("ab", value) for value in no_words("ab")] + [(value, "ab", "a") for value in no_words("ab")[:20]]
        calls = [(web, ()), (index_of, ()), (turning_of, ()), (relation, ()), (hole, ()), (is_relation, (None,)),
                 (is_hole, ("a",)), (spelling, ("a",)), (is_spelling, ("a", ())), (told_by, ((),))]
        for call, more in calls:
            for value in NO_LETTERS:
                self.check_error(call, (value, FOUR) + more, InvalidLetters)
            for value in NO_LETTERS[:8]:
                for other in wrong[-9:] + bad[-5:]:
                    self.check_error(call, (value, other) + more, InvalidLetters)
            for value in wrong:
                self.check_error(call, ("ab", value) + more, InvalidOperation)
            for value in bad:
                self.check_error(call, ("ab", value) + more, InvalidWord)
            # Sixty words are not too many; but these have no index.
            told = error_of(call, ("ab", many[:60]) + more)
            self.assertIs(type(told), InvalidOperation if call == turning_of else type(None))

    def test_texts(self):
        for value in NO_SIGNED:
            self.check_error(spelling, ("ab", FOUR, value), InvalidText)
            self.check_error(is_spelling, ("ab", FOUR, value, ()), InvalidText)
            self.check_error(is_spelling, ("ab", FOUR, value, None), InvalidText)
            self.check_error(spelling, ("ab", ("c",), value), InvalidWord)
            self.check_error(is_spelling, ("ab", ["ab"], value, ()), InvalidOperation)
            self.assertIs(is_hole("ab", FOUR, value), False)

    def test_judged_values(self):
        for value in STRANGE + NO_SPELLINGS:
            for call in (lambda one: is_relation("ab", FOUR, one), lambda one: is_spelling("ab", FOUR, "a", one)):
                self.assertIs(call(value), False)
            if value != "A":
                self.assertIs(is_hole("ab", FOUR, value), False)


class BothWays(unittest.TestCase):
    """[22.4]: full books, words that stand, turnings, one to one."""

    def check(self, letters, words, row, many):
        self.assertIsNone(relation(letters, words))
        self.assertEqual(index_of(letters, words), many)
        turning = turning_of(letters, words)
        self.assertEqual((len(turning), turning.in_order()), (many, turning))
        self.assertEqual(first_returns(turning, row).words, words)
        self.assertIsNone(hole(letters, words))
        return turning

    def test_full_books(self):
        for book in FULL:
            many = plain_degree(book)
            if many > 60:
                continue
            for row in ROWS[book.letters]:
                words = words_standing(book, row)
                if len(words) <= 60:
                    self.check(book.letters, words, row, many)
                    self.assertEqual(len(free_forks(book, row)), many)

    def test_turnings_in_order(self):
        for letters, most in (("a", 4), ("ab", 3), ("abc", 2)):
            for many in range(1, most + 1):
                for turning in all_turnings(letters, many):
                    if not turning.reaches_all() or turning.in_order() != turning:
                        continue
                    for row in ROWS[letters][:3]:
                        words = first_returns(turning, row).words
                        self.assertEqual(self.check(letters, words, row, many), turning)

    def test_four_points(self):
        chance = random.Random(4)
        turnings = [turning for turning in all_turnings("ab", 4) if turning.reaches_all() and turning.in_order() == turning]
        self.assertEqual(len(turnings), 71)
        for turning in turnings:
            row = chance.choice(ROWS["ab"])
            words = first_returns(turning, row).words
            self.assertEqual(self.check("ab", words, row, 4), turning)

    def test_words_that_do_not_clash_and_stand(self):
        # All such sets of short words that stand in the row: those with an index are first returns.
        for row in ROWS["ab"][:3]:
            words = [text for text in all_texts("ab", 5)[1:] if text in row]
            found = 0
            for some in combinations(words, 4):
                if any(comparable(one, other) for one, other in combinations(some, 2)):
                    continue
                many = index_of("ab", some)
                if relation("ab", some) is None and many is not None:
                    self.assertEqual(first_returns(turning_of("ab", some), row).words, some)
                    self.assertEqual(many, 3)
                    found += 1
            self.assertGreater(found, 0)

    def test_degrees_of_small_books(self):
        for book in SMALL_FULL[::3]:
            for row in ROWS[book.letters][:2]:
                words = words_standing(book, row)
                turning = turning_of(book.letters, words)
                self.assertTrue(all(turning.led(0, word) == 0 for word in words))


if __name__ == "__main__":
    unittest.main()
