"""[21.1] to [21.3] and stage 21: turnings."""

import random
import unittest
from itertools import permutations, product

from tests.mirrored import GOLD, ROWS
from tests.refused import Refusing, error_of, no_numbers
from tests.samples import NO_LETTERS, NO_ROWS, NO_TURNINGS, STRANGE, all_texts, comparable
from twowaycuts.book.books import Book
from twowaycuts.errors import InvalidLetters, InvalidNumber, InvalidOperation, InvalidText, TooMany
from twowaycuts.row.mirrors import MirrorRow
from twowaycuts.row.turnings import MAX_POINTS, Turning, first_returns, is_signed, shortened

THREE = Turning("ab", {"a": (1, 2, 0), "b": (1, 0, 2)})
ONE = Turning("ab", {"a": (0,), "b": (0,)})
APART = Turning("ab", {"a": (0, 1), "b": (0, 1)})
NO_SIGNED = [value for value in STRANGE if value not in ("A", "AB", "aB")] + ["c", "abC", "a b", "a" * 4001, "aA" * 2001,
                                                                             ("a",), ["a"]]


def all_turnings(letters, many):
    """All turnings with so many points."""
    rows = list(permutations(range(many)))
    for moves in product(rows, repeat=len(letters)):
        yield Turning(letters, dict(zip(letters, moves)))


def plain_led(turning, point, text):
    for sign in text:
        if sign.islower():
            point = turning.moves[sign][point]
        else:
            point = [at for at in range(len(turning)) if turning.moves[sign.lower()][at] == point][0]
    return point


def plain_first_texts(turning):
    """The first text that leads 0 to each point that is reached, by trying all texts."""
    first = {}
    for text in all_texts(turning.letters, len(turning) - 1):
        first.setdefault(plain_led(turning, 0, text), text)
    return first


def plain_returns(turning, row, longest=40):
    """The first returns, by going along all texts that stand."""
    found, away = [], [""]
    for _ in range(longest):
        away = [text + letter for text in away for letter in row.letters if text + letter in row]
        found += [text for text in away if plain_led(turning, 0, text) == 0]
        away = [text for text in away if plain_led(turning, 0, text) != 0]
    return tuple(found), away


def some_turning(chance, letters, many):
    moves = {}
    for letter in letters:
        row = list(range(many))
        chance.shuffle(row)
        moves[letter] = tuple(row)
    return Turning(letters, moves)


class Examples(unittest.TestCase):
    def test_first(self):
        told = [THREE.led(0, "aab"), THREE.led(1, "BA"), THREE.reaches_all(), THREE.in_order() == THREE,
                first_returns(THREE, GOLD).words, shortened("ab", "aBbAab"), len(THREE), str(THREE)]
        self.assertEqual(told, [2, 2, True, True, ("ab", "baa", "aaba", "baba"), "ab", 3, "turning of 3 points over ab"])

    def test_second(self):
        told = [APART.reaches_all(), Turning("ab", {"a": (0, 2, 1), "b": (2, 1, 0)}).in_order().moves,
                first_returns(ONE, GOLD).words, is_signed("ab", "aBC")]
        self.assertEqual(told, [False, {"a": (0, 2, 1), "b": (1, 0, 2)}, ("a", "b"), False])

    def test_constant(self):
        self.assertEqual(MAX_POINTS, 60)


class Signed(unittest.TestCase, Refusing):
    def test_which_values(self):
        for value in NO_SIGNED:
            self.assertIs(is_signed("ab", value), False, str(value)[:50])
        for value in ("", "a", "A", "aB", "bBAa", "a" * 4000, "aA" * 2000, "B" * 4000):
            self.assertIs(is_signed("ab", value), True)
        self.assertIs(is_signed("bz", "bZzB"), True)
        self.assertIs(is_signed("bz", "A"), False)
        self.assertIs(is_signed("a", "aAB"), False)
        self.check_wrong(is_signed, ("ab", NO_LETTERS, InvalidLetters), ("", [], InvalidText))
        for value in NO_SIGNED[:40]:
            self.check_error(is_signed, ("ba", value), InvalidLetters)

    def test_shortened_in_any_order(self):
        chance = random.Random(21)
        texts = ["".join(signs) for size in range(6) for signs in product("abAB", repeat=size)]
        texts += ["".join(chance.choice("abcABC") for _ in range(30)) for _ in range(60)]
        texts += ["".join(chance.choice("aA") for _ in range(20)) for _ in range(20)]
        for text in texts:
            told = shortened("abc", text)
            for turn in range(3):
                left = text
                while True:
                    places = [at for at in range(len(left) - 1) if left[at] == left[at + 1].swapcase()]
                    if not places:
                        break
                    at = (places[0], places[-1], chance.choice(places))[turn]
                    left = left[:at] + left[at + 2:]
                self.assertEqual(left, told)

    def test_long_texts(self):
        self.assertEqual(shortened("ab", "aA" * 2000), "")
        self.assertEqual(shortened("ab", "a" * 2000 + "A" * 2000), "")
        self.assertEqual(shortened("ab", "ab" * 1000 + "BA" * 1000), "")
        self.assertEqual(shortened("ab", "ab" * 2000), "ab" * 2000)
        self.assertEqual(shortened("ab", "b" + "a" * 1999 + "A" * 1999 + "a"), "ba")

    def test_wrong_arguments(self):
        self.check_wrong(shortened, ("ab", NO_LETTERS, InvalidLetters), ("aB", NO_SIGNED, InvalidText))


class Turnings(unittest.TestCase, Refusing):
    def test_wrong_moves(self):
        good = {"a": (1, 0), "b": (0, 1)}
        wrong = STRANGE + [
            {}, {"a": (1, 0)}, {"b": (1, 0)}, {"a": (1, 0), "c": (1, 0)}, {"a": (1, 0), "b": (0, 1), "c": (0, 1)},
            {"a": (1, 0), "b": (0, 1), 1: (0, 1)}, {"a": (1, 0), "b": [0, 1]}, {"a": (1, 0), "b": (0,)},
            {"a": (0,), "b": (0, 1)}, {"a": (), "b": ()}, {"a": (1, 0), "b": (0, 0)}, {"a": (1, 0), "b": (1, 2)},
            {"a": (1, 0), "b": (0, -1)}, {"a": (True, 0), "b": (0, 1)}, {"a": (1, False), "b": (0, 1)},
            {"a": (1, 0), "b": (0, None)}, {"a": (1, 0), "b": (0, "1")}, {"a": (1, 0), "b": ((0,), 1)},
            {"a": (1, 0), "b": None}, {"a": (1, 0), "b": "01"}, {"a": (1, 0), "b": 1}, {"A": (1, 0), "B": (0, 1)},
            {"a": (1, 0), "b": (0, 10 ** 250)}, {"a": tuple(range(61)), "b": tuple(range(61))},
            {"ab": (0, 1)}, {"a": (1, 0), "b": {0: 0, 1: 1}}, [("a", (1, 0)), ("b", (0, 1))], ((1, 0), (0, 1)),
            {"a": (1, 0), ("b",): (0, 1)}, {"a": (1, 0), "b": (0, 1), None: ()}, {"a": tuple(range(4000)), "b": (0,)}]
        self.check_wrong(Turning, ("ab", NO_LETTERS, InvalidLetters), (good, wrong, InvalidOperation))
        self.check_error(Turning, ("abc", good), InvalidOperation)
        self.check_error(Turning, ("a", good), InvalidOperation)

    def test_bounds(self):
        self.assertEqual((len(Turning("a", {"a": (0,)})), str(Turning("a", {"a": (0,)}))), (1, "turning of 1 points over a"))
        row = tuple((at + 1) % 60 for at in range(60))
        turning = Turning("abc", {"c": row, "b": row, "a": row})
        self.assertEqual((len(turning), str(turning), turning.reaches_all()), (60, "turning of 60 points over abc", True))
        self.assertEqual(turning.led(59, "a" * 4000), (59 + 4000) % 60)
        self.assertEqual(turning.led(0, "aB" * 2000), 0)
        self.assertEqual(turning.led(0, "C" * 4000), -4000 % 60)

    def test_nothing_is_shared(self):
        moves = {"b": (1, 0, 2), "a": (1, 2, 0)}
        turning = Turning("ab", moves)
        moves["a"] = (0, 1, 2)
        moves["c"] = 3
        self.assertEqual(turning, THREE)
        told = turning.moves
        self.assertEqual(list(told), ["a", "b"])
        told["a"] = None
        told.clear()
        self.assertEqual((turning.moves, turning.led(0, "a")), ({"a": (1, 2, 0), "b": (1, 0, 2)}, 1))
        turning.in_order().moves.clear()
        self.assertEqual(turning, THREE)
        for name in ("letters", "moves"):
            with self.assertRaises(AttributeError):
                setattr(turning, name, "a")

    def test_equal(self):
        turnings = [THREE, ONE, APART, Turning("a", {"a": (0,)}), Turning("abc", {"a": (0,), "b": (0,), "c": (0,)}),
                    Turning("bz", {"b": (0,), "z": (0,)}), Turning("ab", {"a": (1, 0, 2), "b": (1, 2, 0)})]
        for at, one in enumerate(turnings):
            for to, other in enumerate(turnings):
                self.assertIs(one == other, at == to)
                self.assertIs(one != other, at != to)
            for value in NO_TURNINGS + [one.moves]:
                self.assertFalse(one == value)
                self.assertTrue(one != value)
        self.assertTrue(THREE == Turning("ab", {"b": (1, 0, 2), "a": (1, 2, 0)}))
        self.assertEqual((THREE.letters, THREE.moves), ("ab", {"a": (1, 2, 0), "b": (1, 0, 2)}))
        for call in (iter, list, lambda one: one[0], lambda one: 0 in one):
            with self.assertRaises(TypeError):
                call(THREE)

    def test_led(self):
        chance = random.Random(3)
        for turning in [THREE, ONE, APART] + [some_turning(chance, letters, many) for letters in ("a", "ab", "abc")
                                              for many in (2, 4, 7)]:
            signs = turning.letters + turning.letters.upper()
            for size in range(4):
                for text in product(signs, repeat=size):
                    text = "".join(text)
                    led = [turning.led(point, text) for point in range(len(turning))]
                    self.assertEqual(led, [plain_led(turning, point, text) for point in range(len(turning))])
                    self.assertEqual(sorted(led), list(range(len(turning))))
                    self.assertEqual([turning.led(led[point], text[::-1].swapcase()) for point in range(len(turning))],
                                     list(range(len(turning))))
            self.check_wrong(turning.led, (0, no_numbers(0, len(turning) - 1), InvalidNumber),
                             ("aA", NO_SIGNED if turning.letters == "ab" else ["d", 3, None], InvalidText))

    def test_reached(self):
        for letters, many in (("a", 1), ("a", 3), ("a", 4), ("ab", 1), ("ab", 2), ("ab", 3), ("abc", 2)):
            for turning in all_turnings(letters, many):
                first = plain_first_texts(turning)
                self.assertIs(turning.reaches_all(), len(first) == many)
                if len(first) < many:
                    self.check_error(turning.in_order, (), InvalidOperation)
                    continue
                told = turning.in_order()
                other = plain_first_texts(told)
                texts = [other[point] for point in range(many)]
                self.assertEqual(texts, sorted(texts, key=lambda text: (len(text), text)))
                # The same texts lead 0 to the same points, by other numbers.
                self.assertEqual({text: 0 for text in texts}, {text: 0 for text in first.values()})
                numbers = {point: told.led(0, first[point]) for point in first}
                self.assertEqual(numbers[0], 0)
                for point in first:
                    for letter in letters:
                        self.assertEqual(numbers[turning.led(point, letter)], told.led(numbers[point], letter))
                self.assertEqual(told.in_order(), told)

    def test_greater_ones(self):
        chance = random.Random(60)
        for many in (5, 20, 59, 60):
            for _ in range(4):
                turning = some_turning(chance, "ab", many)
                if turning.reaches_all():
                    told = turning.in_order()
                    self.assertEqual((len(told), told.in_order(), told.reaches_all()), (many, told, True))


class Returns(unittest.TestCase, Refusing):
    def check(self, turning, row):
        words, away = plain_returns(turning, row)
        if away:
            return
        book = first_returns(turning, row)
        self.assertEqual((type(book), book.letters, book.words), (Book, row.letters, words))
        self.assertEqual(len(words), (len(row.letters) - 1) * len(turning) + 1)
        self.assertFalse([1 for one in words for other in words if one < other and comparable(one, other)])

    def test_all_small_turnings(self):
        for letters, most in (("a", 4), ("ab", 3), ("abc", 2)):
            for many in range(1, most + 1):
                for turning in all_turnings(letters, many):
                    for row in ROWS[letters][:4]:
                        if turning.reaches_all():
                            self.check(turning, row)
                        else:
                            self.check_error(first_returns, (turning, row), InvalidOperation)

    def test_greater_turnings(self):
        chance = random.Random(21)
        for many in (4, 5, 8, 12):
            for row in ROWS["ab"][:3] + ROWS["abc"][:2]:
                turning = some_turning(chance, row.letters, many)
                if turning.reaches_all():
                    self.check(turning, row)
        for many in (30, 60):
            for row in ROWS["ab"] + ROWS["abc"]:
                turning = some_turning(chance, row.letters, many)
                if turning.reaches_all() and error_of(first_returns, (turning, row)) is None:
                    book = first_returns(turning, row)
                    self.assertEqual(len(book), (len(row.letters) - 1) * many + 1)
                    self.assertTrue(all(word in row and turning.led(0, word) == 0 for word in book.words))

    def test_long_returns(self):
        # Each letter b turns by one point, and the row has many letters a between: a return is so long as 20 of these.
        row = MirrorRow("ab", "a" * 18, "a" * 18 + "b")
        for many, turns in ((20, (0, 1)), (21, (0, 1)), (22, (0, 1)), (60, (0, 1)), (7, (0, 1)), (60, (1, 1))):
            turning = Turning("ab", {"a": tuple((at + turns[0]) % many for at in range(many)),
                                     "b": tuple((at + turns[1]) % many for at in range(many))})
            start = row.start(4000)
            longest = 0
            for at in range(3000):
                point, size = turning.led(0, start[at]), 1
                while point != 0 and size < 900:
                    point, size = turning.led(point, start[at + size]), size + 1
                longest = max(longest, size)
            if longest > 400:
                self.check_error(first_returns, (turning, row), TooMany, {"limit": 400})
            else:
                book = first_returns(turning, row)
                self.assertEqual((book.longest, len(book)), (longest, many + 1))

    def test_just_400_letters(self):
        # With one letter, d points make the one first return of d letters; 60 are the most. With two, some turning of
        # the row has one of just 400 letters, and another one of 401.
        found = {}
        for size, run in product((1, 4, 7, 19, 20), (9, 14, 17, 19)):
            row = MirrorRow("ab", "a" * size, "a" * run + "b")
            for many in range(8, 40):
                turning = Turning("ab", {"a": tuple(range(many)), "b": tuple((at + 1) % many for at in range(many))})
                start = row.start(4000)
                ends = [at for at in range(len(start)) if start[at] == "b"]
                sizes = [other - one + 1 for one, other in zip(ends, ends[many - 1:])]
                found[max(sizes)] = (turning, row)
        for size in sorted(found):
            if 330 < size <= 400:
                self.assertEqual(first_returns(*found[size]).longest, size)
            if 400 < size < 470:
                self.check_error(first_returns, found[size], TooMany, {"limit": 400})
        self.assertTrue(400 in found and 401 in found, sorted(found))

    def test_wrong_arguments(self):
        self.check_wrong(first_returns, (THREE, NO_TURNINGS, InvalidOperation), (GOLD, NO_ROWS, InvalidOperation))
        self.check_error(first_returns, (THREE, ROWS["abc"][0]), InvalidOperation)
        self.check_error(first_returns, (APART, GOLD), InvalidOperation)
        self.check_error(first_returns, (APART, ROWS["bz"][0]), InvalidOperation)


if __name__ == "__main__":
    unittest.main()
