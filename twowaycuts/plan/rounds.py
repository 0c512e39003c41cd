"""Rings of plans without a flaw: rounds of states at which a word ends each time."""

from twowaycuts.base.names import MAX_TEXT


def lasting(reader):
    """The dict from each state from which words can end for ever, to the states behind it that are such again."""
    # First all steps from states at which a word ends to such states; then those that lead to an end are taken out.
    steps = {}
    before = {}
    for state, is_end in enumerate(reader.ended):
        if is_end:
            steps[state] = [after for after in reader.steps[state] if reader.ended[after]]
            for after in steps[state]:
                before.setdefault(after, []).append(state)
    many = {state: len(steps[state]) for state in steps}
    dead = [state for state in many if many[state] == 0]
    while dead:
        last = dead.pop()
        for state in before.get(last, []):
            many[state] -= 1
            if many[state] == 0:
                dead.append(state)
    return {state: [after for after in steps[state] if many[after] > 0] for state in steps if many[state] > 0}


def find_round(letters, reader, steps):
    """A state, and a text of at most MAX_TEXT letters, if there is such a one, that leads it back to itself.

    `steps` is what `lasting` tells; it is not empty.
    """
    state = min(steps)
    # Who goes on for so long has come to a round.
    for _ in range(len(steps)):
        state = steps[state][0]
    again = _way_round(letters, reader, steps, state)
    if len(again) > MAX_TEXT:
        for other in steps:
            shorter = _way_round(letters, reader, steps, other)
            if shorter is not None and len(shorter) <= MAX_TEXT:
                return other, shorter
    return state, again


def _way_round(letters, reader, steps, start):
    """The shortest text that leads a state back to itself by lasting states, or None."""
    # For each state that is reached the one ahead of it, and the letter between.
    came = {}
    level = [start]
    while level and start not in came:
        further = []
        for state in list(level):
            for letter, after in zip(letters, reader.steps[state]):
                if after in steps and after not in came:
                    came[after] = (state, letter)
                    further.append(after)
        level = further
    return _read_back(came, start) if start in came else None


def _read_back(came, start):
    state, letter = came[start]
    signs = [letter]
    while state != start:
        state, letter = came[state]
        signs.append(letter)
    return "".join(signs[::-1])
