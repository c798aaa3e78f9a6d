"""Effects: short tables of what programs leave of the histories of all lengths."""

from undotables.errors import InvalidChanges, InvalidCount, NotAnEffect
from undotables.histories import check_names, is_integer
from undotables.outcomes import check_length
from undotables.programs import check_program
from undotables.words import first_alike, parts_after, parts_of


def check_undone_count(count, names):
    """Raises InvalidCount if so many of these names cannot be undone."""
    if not is_integer(count, 0) or count > len(names):
        raise InvalidCount(count)


def is_run(times, what, names):
    """True if this can be the word of so many lengths, of all that are left if None."""
    if what != "undone" and (what != "old" or not names):
        return False
    return times is None or is_integer(times, 1)


def is_loss(times, what, kept):
    """True if this can be the index of an item that one length more loses, if these are kept."""
    if not is_integer(times, 1) or times > 1:
        return False
    return is_integer(what, 0) and what < len(kept) - 1 and first_alike(kept, what) == what


def is_change(value, kept):
    """True if this can be one of the changes of an effect, if these new items are kept before it."""
    if not isinstance(value, tuple) or len(value) != 3 or not is_integer(value[0], 0):
        return False
    length, times, what = value
    # Only a string is compared with the words, because other values may have an equality of their own.
    return is_run(times, what, kept) if isinstance(what, str) else is_loss(times, what, kept)


def can_follow(change, before):
    """True if a change can stand behind this one."""
    length, times, what = before
    if times is None or change[0] < length + times:
        return False
    return isinstance(what, int) or change[2] != what or change[0] > length + times


def check_changes(changes, names):
    """Raises InvalidChanges if these are not the changes of an effect with these new names."""
    if not isinstance(changes, tuple):
        raise InvalidChanges(None)
    kept = list(names)
    for at, change in enumerate(changes):
        if not is_change(change, kept) or at > 0 and not can_follow(change, changes[at - 1]):
            raise InvalidChanges(at)
        if isinstance(change[2], int):
            del kept[change[2]]


def word_of(what):
    """The word that stands in a change as this."""
    return "item" if isinstance(what, int) else what


class Effect:
    """What a program leaves of the histories of all lengths; it never changes."""

    def __init__(self, new_names=(), undone_count=0, changes=()):
        check_names(new_names)
        check_undone_count(undone_count, new_names)
        check_changes(changes, new_names)
        self.new_names = new_names
        self.undone_count = undone_count
        self.changes = changes

    def word(self, length):
        """How the outcome for the next length results from that for this one."""
        check_length(length)
        for start, times, what in self.changes:
            if start <= length and (times is None or length < start + times):
                return word_of(what)
        return "keep"

    @property
    def last(self):
        """The least length such that it and all greater ones have the same word."""
        if not self.changes:
            return 0
        length, times, what = self.changes[-1]
        return length if times is None else length + times

    def table(self, *lengths):
        """A text with a line for each of these lengths."""
        lines = []
        for length in lengths:
            kept, items, undone = self[length]
            names = " ".join(items) if items else "-"
            lines.append(f"{length:>8}{kept:>8}{undone:>8}  {names}")
        return "\n".join(lines)

    def __getitem__(self, at):
        check_length(at)
        kept = at
        items = list(self.new_names)
        undone = self.undone_count
        for length, times, what in self.changes:
            if length >= at:
                break
            many = at - length if times is None else min(times, at - length)
            if what == "undone":
                undone = undone + many
            elif what == "old":
                kept = kept - many
            else:
                del items[what]
        return (kept, tuple(items), undone)

    def __iter__(self):
        raise TypeError("an effect has an outcome for every length, so there is no end of them")

    def __add__(self, other):
        check_program(other)
        names, undone, changes = parts_after(self.new_names, self.undone_count, self.changes, other.commands)
        return Effect(names, undone, changes)

    def __len__(self):
        return len(self.changes)

    def __eq__(self, other):
        return (isinstance(other, Effect) and self.new_names == other.new_names
                and self.undone_count == other.undone_count and self.changes == other.changes)

    def __repr__(self):
        return f"Effect({len(self.new_names)} names, {self.undone_count} undone, {len(self.changes)} changes)"


def effect_of(program):
    """The effect of a program."""
    check_program(program)
    # The parts of an effect would be looked at once more, were they passed to Effect.
    made = Effect()
    made.new_names, made.undone_count, made.changes = parts_of(program.commands)
    return made


def check_effect(effect):
    """Raises NotAnEffect if this is not an effect."""
    if not isinstance(effect, Effect):
        raise NotAnEffect(effect)
