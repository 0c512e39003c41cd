"""Wrong arguments, one and two at once: which error comes first."""

from tests.samples import STRANGE
from twowaycuts.errors import InvalidNumber


def no_numbers(low, high):
    """Values that are no integers from low to high."""
    strange = [value for value in STRANGE if type(value) is not int]
    return strange + [low - 1, high + 1, -low - 3, high + 1000, 10 ** 199, -10 ** 299, "5", (low,), [low], {low: low}]


def error_of(call, arguments):
    """The error that a call raises, or None."""
    try:
        call(*arguments)
    except Exception as error:
        return error
    return None


class Refusing:
    """A part of a test case."""

    def check_error(self, call, arguments, wanted, kept=None):
        """`kept` tells what the error keeps, by name."""
        told = error_of(call, arguments)
        shown = (getattr(call, "__name__", call), arguments)
        self.assertIs(type(told), wanted, str(shown)[:500])
        if kept:
            self.assertEqual(vars(told), kept, str(shown)[:500])

    def check_wrong(self, call, *parts):
        """Each part tells a good value of an argument, wrong ones, and their error.

        All wrong values are tried alone; of two wrong arguments the first one tells the error.
        """
        good = [part[0] for part in parts]
        for at, (_, wrong, wanted) in enumerate(parts):
            for value in wrong:
                self.check_one(call, good[:at] + [value] + good[at + 1:], wanted, value)
            for behind in range(at + 1, len(parts)):
                others = parts[behind][1]
                pairs = [(value, other) for value in wrong[:6] for other in others[-30:]]
                pairs += [(value, other) for value in wrong[-30:] for other in others[:6]]
                for value, other in pairs:
                    arguments = good[:at] + [value] + good[at + 1:behind] + [other] + good[behind + 1:]
                    self.check_one(call, arguments, wanted, value)

    def check_one(self, call, arguments, wanted, value):
        kept = {"value": value} if wanted is InvalidNumber else None
        self.check_error(call, arguments, wanted, kept)
