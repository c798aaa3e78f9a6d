"""Histories, and what names and amounts are."""

from undotables.errors import InvalidAmount, InvalidName, InvalidNames, NotAHistory

LONGEST_NAME = 8


def is_integer(value, least):
    """True for an integer from `least` on."""
    # True and False are int to Python, but no integers here.
    return isinstance(value, int) and not isinstance(value, bool) and value >= least


def is_name(value):
    """True for a string of one to eight letters from a to z."""
    if not isinstance(value, str) or len(value) > LONGEST_NAME:
        return False
    return value.isascii() and value.isalpha() and value.islower()


def is_amount(value):
    """True for an integer from 1 on, and for None, which stands for all."""
    return value is None or isinstance(value, int) and not isinstance(value, bool) and value >= 1


def check_name(name):
    """Raises InvalidName if this is not a name."""
    if not is_name(name):
        raise InvalidName(name)


def check_names(names):
    """Raises InvalidNames if this is not a tuple of names."""
    if not isinstance(names, tuple):
        raise InvalidNames(None)
    # Written out, because a call of is_name for each item takes noticeably longer for a long history.
    for at, value in enumerate(names):
        if (not isinstance(value, str) or len(value) > LONGEST_NAME
                or not (value.isascii() and value.isalpha() and value.islower())):
            raise InvalidNames(at)


def check_amount(amount):
    """Raises InvalidAmount if this is not an amount."""
    if not is_amount(amount):
        raise InvalidAmount(amount)


def number_moved(wanted, available):
    """How many of the available items an undo or a redo of the amount `wanted` moves."""
    return available if wanted is None else min(wanted, available)


def history_with(past, future):
    """The history with this past and this future, both known to be tuples of names."""
    # All items of a long history would be looked at once more for each command, were they passed to History.
    made = History()
    made.past = past
    made.future = future
    return made


class History:
    """The items that were done, and those that were undone; it never changes."""

    def __init__(self, past=(), future=()):
        check_names(past)
        check_names(future)
        self.past = past
        self.future = future

    @classmethod
    def of(cls, *names):
        """The history with this past and an empty future."""
        return cls(names)

    @property
    def line(self):
        """The past followed by the future."""
        return self.past + self.future

    def do(self, name):
        """The history after the item was done; the future is discarded."""
        check_name(name)
        return history_with(self.past + (name,), ())

    def undo(self, amount=1):
        """The history after so many items of the past were undone."""
        check_amount(amount)
        kept = len(self.past) - number_moved(amount, len(self.past))
        return history_with(self.past[:kept], self.past[kept:] + self.future)

    def redo(self, amount=1):
        """The history after so many items of the future were redone."""
        check_amount(amount)
        moved = number_moved(amount, len(self.future))
        return history_with(self.past + self.future[:moved], self.future[moved:])

    def __len__(self):
        return len(self.past + self.future)

    def __contains__(self, x):
        # Only a name is compared, because other values may have an equality of their own.
        return is_name(x) and x in self.past

    def __eq__(self, other):
        return isinstance(other, History) and self.past == other.past and self.future == other.future

    def __str__(self):
        return " ".join([*self.past, "|", *self.future])

    def __repr__(self):
        return f"History({len(self.past)}, {len(self.future)})"


def check_history(history):
    """Raises NotAHistory if this is not a history."""
    if not isinstance(history, History):
        raise NotAHistory(history)
