"""Words that are laid together to a web, along which each way tells a spelling."""

from heapq import heappop, heappush

from twowaycuts.row.signs import joined_ways, signs_of, undone_way

_NO_WAY = ((), ())


class Web:
    """Points, 0 among them, between which letters lead, and capitals back: each word leads 0 to 0.

    `steps[point][sign]` is the point to which a sign leads. Each point has a place, a signed text that is not kept; it
    is empty for 0. The way of a step by a letter is a spelling: it tells the place of the first point, the letter, and
    the place of the second point undone, one behind the other and shortened. The way between two points that have to be
    one tells the place of the first one, and that of the second one undone. `relation` is a relation of the words, or
    None. If no spellings are wanted, all ways are empty.
    """

    def __init__(self, letters, words, with_spellings):
        self._signs = signs_of(letters)
        self.steps = [{}]
        self.relation = None
        self._ways = [{}]
        # The point that stands for a point that is given up, and the way between them.
        self._given_up = {}
        # Points that have to be one, those first that have the shortest way between them: otherwise the spellings would
        # become very long if the words have relations. The second number is only there to tell them apart.
        self._waiting = []
        self._many = 0
        for index, word in enumerate(words):
            self._take(word, (((index, 1),), ((index, -1),)) if with_spellings else _NO_WAY)
        self._fold()

    def walk(self, text):
        """How far a shortened text leads 0: to which point, and by how many signs."""
        point = 0
        for many, sign in enumerate(text):
            if sign not in self.steps[point]:
                return point, many
            point = self.steps[point][sign]
        return point, len(text)

    def spelled(self, text):
        """The spelling of a text that leads 0 to 0."""
        pairs = []
        point = 0
        for sign in text:
            after = self.steps[point][sign]
            for pair in self._ways[point][sign][0] if sign.islower() else self._ways[after][sign.lower()][1]:
                if pairs and pairs[-1] == (pair[0], -pair[1]):
                    pairs.pop()
                else:
                    pairs.append(pair)
            point = after
        return tuple(pairs)

    def points(self):
        """The list of the points, by their first open texts, each with this text."""
        found = [(0, "")]
        known = {0: True}
        at = 0
        while at < len(found):
            point, text = found[at]
            for sign in self._signs:
                after = self.steps[point].get(sign)
                if after is not None and after not in known:
                    known[after] = True
                    found.append((after, text + sign))
            at += 1
        return found

    def _take(self, word, way):
        """Lay in a word, by steps of other words as far as these do not lead to 0; the last step has the way."""
        point = 0
        for letter in word[:-1]:
            if self.steps[point].get(letter, 0) != 0:
                point = self.steps[point][letter]
            else:
                self.steps.append({})
                self._ways.append({})
                self._join(point, letter, len(self.steps) - 1, _NO_WAY)
                point = len(self.steps) - 1
        self._join(point, word[-1], 0, way)

    def _join(self, point, letter, after, way):
        """Lay a step; if there is one by the letter at one of the points, two points have to be one."""
        if letter in self.steps[point]:
            other, told = self.steps[point][letter], self._ways[point][letter]
            self._wait(after, other, joined_ways(undone_way(way), told))
            if other == after and len(way[0]) < len(told[0]):
                self._ways[point][letter] = way
        elif letter.upper() in self.steps[after]:
            other = self.steps[after][letter.upper()]
            self._wait(point, other, joined_ways(way, undone_way(self._ways[other][letter])))
        else:
            self.steps[point][letter] = after
            self.steps[after][letter.upper()] = point
            self._ways[point][letter] = way

    def _wait(self, one, other, way):
        self._many += 1
        heappush(self._waiting, (len(way[0]), self._many, one, other, way))

    def _fold(self):
        """Make one point of each two that have to be one."""
        while self._waiting:
            size, _, one, other, way = heappop(self._waiting)
            one, near = self._kept(one)
            other, far = self._kept(other)
            way = joined_ways(joined_ways(undone_way(near), way), far)
            if len(way[0]) > size:
                self._wait(one, other, way)
            elif one != other:
                self._merge(one, other, way)
            elif self.relation is None or len(way[0]) < len(self.relation):
                self.relation = way[0]

    def _kept(self, point):
        """The point that stands for a point now, and the way between them."""
        kept = point
        way = _NO_WAY
        while kept in self._given_up:
            kept, behind = self._given_up[kept]
            way = joined_ways(way, behind)
        if kept != point:
            self._given_up[point] = (kept, way)
        return kept, way

    def _merge(self, one, other, way):
        # The point with fewer steps is given up, but never 0.
        if other != 0 and (one == 0 or len(self.steps[other]) <= len(self.steps[one])):
            self._give_up(other, one, undone_way(way))
        else:
            self._give_up(one, other, way)

    def _give_up(self, point, other, way):
        """Lay all steps of a point to another one instead; the way between them goes ahead of these."""
        self._given_up[point] = (other, way)
        moved = list(self.steps[point].items())
        self.steps[point] = {}
        for sign, after in moved:
            letter = sign.lower()
            if sign != letter and after != point:
                self.steps[after].pop(letter)
                self._join(after, letter, other, joined_ways(self._ways[after].pop(letter), way))
            elif sign == letter:
                ahead = joined_ways(undone_way(way), self._ways[point][letter])
                # The capital of a step from the point to itself leads the same step back.
                if after == point:
                    self._join(other, letter, other, joined_ways(ahead, way))
                else:
                    self.steps[after].pop(letter.upper())
                    self._join(other, letter, after, ahead)
