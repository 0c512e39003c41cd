"""Texts that are read letter by letter, by the words of a plan without a flaw."""


class Reader:
    """Tells of each text its state, and M of it.

    The state is the index of the longest end of the text that is a beginning of a word; `heads` has these beginnings,
    by their length. `steps[state]` has the states behind one letter more, in the order of the letters, and
    `ended[state]` tells whether a word is an end of the text.
    """

    def __init__(self, letters, words):
        self._letters = letters
        self.heads = _heads_of(words)
        self.ended = []
        self.steps = []
        self._fill({word: True for word in words})

    def _fill(self, known):
        index = {head: state for state, head in enumerate(self.heads)}
        # For each head the state of what is behind its first letter. This is shorter, so it is filled in already.
        backs = []
        for head in self.heads:
            back = 0
            if len(head) > 1:
                back = self.steps[backs[index[head[:-1]]]][self._letters.index(head[-1])]
            backs.append(back)
            self.ended.append(head in known or (head != "" and self.ended[back]))
            # The empty text leads on to itself, all others to where a shorter one leads.
            others = self.steps[back] if head != "" else [0 for _ in self._letters]
            self.steps.append([index.get(head + letter, other) for letter, other in zip(self._letters, others)])

    def behind(self, place, at):
        """The state and M of a text with one letter more, told by its index, by the state and M of the text."""
        state, many = place
        after = self.steps[state][at]
        return after, (many if self.ended[after] else many + 1)


def _heads_of(words):
    """All beginnings of some words, by their length, the empty one first."""
    heads = [""]
    longer = list(words)
    size = 1
    while longer:
        heads = heads + list({word[:size]: True for word in longer})
        longer = [word for word in longer if len(word) > size]
        size += 1
    return heads
