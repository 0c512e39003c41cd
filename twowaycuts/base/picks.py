"""Choices of some things out of several."""


def picks(things, many):
    """All tuples of so many of the things, each in the order in which the things are told."""
    rows = [[()]] + [[] for _ in range(many)]
    for thing in things:
        # From the longest rows on, so that none takes the same thing twice.
        for size in range(many, 0, -1):
            rows[size] = rows[size] + [row + (thing,) for row in rows[size - 1]]
    return rows[many]
