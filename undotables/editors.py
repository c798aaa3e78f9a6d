"""Editors: they keep a history while it changes."""

from undotables.errors import Busy, CannotRevert, InvalidLimit, InvalidProgram, TooManyDiscarded
from undotables.histories import History, check_amount, check_name, is_integer
from undotables.programs import Program


class Editor:
    """Keeps a history while commands change it, and the commands that were carried out."""

    KIND = "editor"

    def __init__(self, *names):
        self.present = History.of(*names)
        self.saved = names
        self.entries = []
        # Editors of all kinds count what they discard, so that `perform` can put all of it back after an error.
        self.gone = 0
        self.busy = False

    @property
    def history(self):
        """The present history."""
        return self.present

    @property
    def log(self):
        """The commands that were carried out, in their sequence."""
        return tuple(self.entries)

    @property
    def changed(self):
        """True if the past is not the one that was saved last."""
        return self.present.past != self.saved

    @property
    def can_revert(self):
        """True if the saved past is a beginning of the present line."""
        return self.present.line[:len(self.saved)] == self.saved

    def check_idle(self):
        """Raises Busy while `perform` works."""
        if self.busy:
            raise Busy()

    def drop(self, many):
        """Counts so many items, which a do command is about to discard."""
        self.gone += many

    def carry_out(self, command):
        """Carries out a command and appends it to the log; returns how many items an undo or a redo moves."""
        before = self.present
        if command[0] == "do":
            self.drop(len(before.future))
        program = Program(command)
        self.present = program(before)
        self.entries.append(command)
        return abs(len(self.present.past) - len(before.past))

    def do(self, name):
        """Does this item; returns how many items it discards."""
        self.check_idle()
        check_name(name)
        discarded = len(self.present.future)
        self.carry_out(("do", name))
        return discarded

    def undo(self, amount=1):
        """Undoes so many items; returns how many move."""
        self.check_idle()
        check_amount(amount)
        return self.carry_out(("undo", amount))

    def redo(self, amount=1):
        """Redoes so many items; returns how many move."""
        self.check_idle()
        check_amount(amount)
        return self.carry_out(("redo", amount))

    def perform(self, commands, *, watch=None):
        """Carries out all these commands or, if an error is raised, none; `watch` is called after each."""
        self.check_idle()
        if not isinstance(commands, tuple):
            raise InvalidProgram(None)
        program = Program(*commands)
        present, entries, gone = self.present, list(self.entries), self.gone
        self.busy = True
        try:
            for at, command in enumerate(program.commands):
                self.carry_out(command)
                if watch is not None:
                    watch(self, at)
            present, entries, gone = self.present, self.entries, self.gone
        finally:
            # What is assigned here is the state before the call, unless the last statement of `try` was reached.
            self.present, self.entries, self.gone = present, entries, gone
            self.busy = False

    def save(self):
        """Saves the present past."""
        self.check_idle()
        self.saved = self.present.past

    def revert(self):
        """Carries out the undo or redo that leads to the saved past, and returns it; None if nothing changed."""
        self.check_idle()
        if not self.changed:
            return None
        if not self.can_revert:
            raise CannotRevert()
        more = len(self.present.past) - len(self.saved)
        command = ("undo", more) if more > 0 else ("redo", -more)
        self.carry_out(command)
        return command

    def describe(self):
        """The kind of the editor and the text of its history."""
        return f"{self.KIND} {self.present}"

    def __len__(self):
        return len(self.entries)

    def __bool__(self):
        return True

    def __eq__(self, other):
        return isinstance(other, Editor) and self.present == other.present


class CountingEditor(Editor):
    """An editor that tells how many items its do commands have discarded."""

    KIND = "counting editor"

    @property
    def discarded(self):
        """How many items the do commands have discarded."""
        return self.gone

    def describe(self):
        """The kind of the editor, the text of its history and the number of discarded items."""
        told = super().describe()
        return f"{told}, {self.gone} discarded"


class GuardedEditor(Editor):
    """An editor whose do commands discard no more items than a limit."""

    KIND = "guarded editor"

    def __init__(self, *names):
        super().__init__(*names)
        self.most = None

    @property
    def limit(self):
        """The most items that a do command discards, or None."""
        return self.most

    @limit.setter
    def limit(self, value):
        self.check_idle()
        if value is not None and not is_integer(value, 0):
            raise InvalidLimit(value)
        self.most = value

    def change_limit(self, limit):
        """Assigns the limit."""
        self.limit = limit

    def drop(self, many):
        """Counts so many items, unless they are more than the limit: then it raises TooManyDiscarded."""
        if self.most is not None and many > self.most:
            raise TooManyDiscarded(many)
        super().drop(many)


class CountingGuardedEditor(CountingEditor, GuardedEditor):
    """An editor that counts the discarded items and has a limit for them."""

    KIND = "counting guarded editor"
