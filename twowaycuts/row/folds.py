"""Words that are laid together to a web, each way along which tells a spelling."""

from twowaycuts.row.signs import joined_pairs, signs_of, undone_pairs, undone_text


class Web:
    """Points, 0 among them, between which letters lead, and capitals back: the words lead 0 to 0.

    Each point has a place, a signed text that is not kept; that of 0 is empty. `steps[point][sign]` has the point to
    which the sign leads, and a spelling: it tells the place of the first point, the sign, and the place of the second
    point undone, one behind the other and shortened. `relation` is one of the words, or None if there is none.
    """

    def __init__(self, letters, words):
        self._signs = signs_of(letters)
        self.steps = [{}]
        self.relation = None
        # For a point that is given up, another one and what tells the place of the first, that of the second undone.
        self._given_up = {}
        # With the shorter words first, the spellings stay shorter, too, if the words have relations.
        for _, index in sorted([(len(word), index) for index, word in enumerate(words)]):
            self._take(index, words[index])

    def walk(self, text):
        """How far a shortened text leads 0: to which point, with which spelling, and by how many signs."""
        point = 0
        pairs = []
        for many, sign in enumerate(text):
            if sign not in self.steps[point]:
                return point, tuple(pairs), many
            point, behind = self.steps[point][sign]
            for index, way in behind:
                if pairs and pairs[-1] == (index, -way):
                    pairs.pop()
                else:
                    pairs.append((index, way))
        return point, tuple(pairs), len(text)

    def points(self):
        """The list of the points, by their first open texts, each with this text."""
        found = [(0, "")]
        known = {0: True}
        at = 0
        while at < len(found):
            point, text = found[at]
            for sign in self._signs:
                if sign in self.steps[point] and self.steps[point][sign][0] not in known:
                    after = self.steps[point][sign][0]
                    known[after] = True
                    found.append((after, text + sign))
            at += 1
        return found

    def _take(self, index, word):
        """Lay in a word, from both ends along what is there."""
        start, ahead, many = self.walk(word)
        end, behind, far = self.walk(undone_text(word[many:]))
        pairs = joined_pairs(joined_pairs(undone_pairs(ahead), ((index, 1),)), behind)
        middle = word[many:len(word) - far]
        if middle == "":
            self._merge([(start, end, pairs)])
            return
        for sign in middle[:-1]:
            self.steps.append({})
            self._lay(start, sign, len(self.steps) - 1, ())
            start = len(self.steps) - 1
        self._lay(start, middle[-1], end, pairs)

    def _lay(self, point, sign, after, pairs):
        """Lay a step, and the one back."""
        self.steps[point][sign] = (after, pairs)
        self.steps[after][sign.swapcase()] = (point, undone_pairs(pairs))

    def _join(self, point, sign, after, pairs):
        """Lay a step, unless such a one is there; a list of what has to be merged then."""
        back = sign.swapcase()
        if sign in self.steps[point]:
            other, told = self.steps[point][sign]
            return [(after, other, joined_pairs(undone_pairs(pairs), told))]
        if back in self.steps[after]:
            other, told = self.steps[after][back]
            return [(point, other, joined_pairs(pairs, told))]
        self._lay(point, sign, after, pairs)
        return []

    def _merge(self, waiting):
        """Merge points: of two of them, what tells the place of the first one, that of the second one undone."""
        while waiting:
            one, other, pairs = waiting.pop()
            one, near = self._kept(one)
            other, far = self._kept(other)
            pairs = joined_pairs(joined_pairs(undone_pairs(near), pairs), far)
            if one == other and self.relation is None:
                self.relation = pairs
            elif one < other:
                waiting.extend(self._give_up(other, one, undone_pairs(pairs)))
            elif other < one:
                waiting.extend(self._give_up(one, other, pairs))

    def _kept(self, point):
        """The point that stands for a point now, and what tells the place of this one, that of the other one undone."""
        pairs = ()
        while point in self._given_up:
            point, behind = self._given_up[point]
            pairs = joined_pairs(pairs, behind)
        return point, pairs

    def _give_up(self, point, other, pairs):
        """Lay the steps of a point to another one, with what tells their places; a list of what is merged then."""
        self._given_up[point] = (other, pairs)
        moved_steps = list(self.steps[point].items())
        self.steps[point] = {}
        merged = []
        for sign, (after, told) in moved_steps:
            moved = joined_pairs(undone_pairs(pairs), told)
            if after != point:
                self.steps[after].pop(sign.swapcase())
                merged.extend(self._join(other, sign, after, moved))
            elif sign.islower():
                # The capital leads the same step back.
                merged.extend(self._join(other, sign, other, joined_pairs(moved, pairs)))
        return merged
