"""What can be seen of desks."""

from tests.refused import error_of


def state(desk):
    return desk.book, desk.left, desk.right


def histories(desk):
    """All that can be seen of a desk: each state behind undoing and doing again."""
    other = desk.twin()
    seen = [state(other)]
    while error_of(other.undo, ()) is None:
        seen.append(state(other))
    behind = [state(other)]
    while error_of(other.redo, ()) is None:
        behind.append(state(other))
    return seen, behind
