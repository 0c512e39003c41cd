"""Starts of mirror rows that are the same turned round, and texts that hold all short texts that stand in a row."""


def guide_of(head, again, size):
    """The first so many letters of the guide."""
    rounds = max(0, size - len(head)) // len(again) + 1
    return (head + again * rounds)[:size]


def mirror_of(head, again, size, part):
    """The first start p(n) of the row that has at least so many letters, and a text within.

    Behind it the dict from each letter of the guide up to there to the length of the last p(m) that it stood behind.
    """
    text = ""
    ahead = {}
    at = 0
    while len(text) < size or part not in text:
        letter = head[at] if at < len(head) else again[(at - len(head)) % len(again)]
        longer = closed(text, ahead, letter)
        ahead[letter] = len(text)
        text = longer
        at += 1
    return text, ahead


def closed(text, ahead, letter):
    """The mirror close of a start p(n), told as above, with a letter behind it."""
    # The longest end of this that is the same turned round has the letter at both ends of the last p(m) ahead of it.
    return text + (text[ahead[letter]:] if letter in ahead else letter + text)


def stretches(letters, head, again, size):
    """Texts that stand in the row and have in them all texts that stand there, up to a size."""
    # Where the row has p(n) at two places, and at no third one between, it has the mirror close of p(n) and a letter
    # from the first place to the end of p(n) at the second one. Each letter stands behind p(n) somewhere; and what is
    # longer than p(n) by at most one letter lies in one of these parts of the row.
    text, ahead = mirror_of(head, again, size - 1, "")
    return [closed(text, ahead, letter) for letter in letters]
