"""Mirror rows for the tests, and long starts of them that are made letter by letter."""

from functools import lru_cache

from twowaycuts.row.mirrors import MirrorRow

GOLD = MirrorRow("ab", "", "ab")
ROWS = {
    "a": [MirrorRow("a", "", "a"), MirrorRow("a", "aa", "aaa")],
    "ab": [GOLD, MirrorRow("ab", "b", "ba"), MirrorRow("ab", "", "aab"), MirrorRow("ab", "bbab", "abbba"),
           MirrorRow("ab", "aaaa", "ab"), MirrorRow("ab", "a" * 7, "abb")],
    "abc": [MirrorRow("abc", "", "abc"), MirrorRow("abc", "b", "abc"), MirrorRow("abc", "ccab", "bacc"),
            MirrorRow("abc", "abab", "cab"), MirrorRow("abc", "", "aabc")],
    "bz": [MirrorRow("bz", "", "zb"), MirrorRow("bz", "zzb", "bzz")],
    "m": [MirrorRow("m", "", "m")],
    "z": [MirrorRow("z", "", "z")],
}
SOME_ROWS = [row for letters in ("a", "ab", "abc") for row in ROWS[letters]]


def plain_close(text):
    """The mirror close, by trying."""
    for at in range(len(text) + 1):
        whole = text + text[:at][::-1]
        if whole == whole[::-1]:
            return whole
    return None


def plain_guide(row, size):
    signs = list(row.head)
    while len(signs) < size:
        signs.extend(row.again)
    return "".join(signs[:size])


def long_start(row, size):
    """Some p(n) of the row with at least so many letters."""
    return _long_start(row.head, row.again, size)


@lru_cache(maxsize=None)
def _long_start(head, again, size):
    text, at = "", 0
    while len(text) < size:
        text = plain_close(text + head[at:at + 1] + again[(at - len(head)) % len(again)] * (at >= len(head)))
        at += 1
    return text


def plain_standing(row, size, many=3000):
    """All texts of a size in a long start of the row."""
    text = long_start(row, many)
    return tuple(sorted({text[at:at + size] for at in range(len(text) - size + 1)}))
