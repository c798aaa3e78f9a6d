"""Programs: commands that are carried out one after another, and their texts."""

from undotables.errors import InvalidProgram, InvalidText, NotAProgram
from undotables.histories import History, check_history, is_amount, is_integer, is_name, number_moved

BEFORE_STEPS = "times ("
AFTER_STEPS = ")"


def is_form(value, word, size):
    """True for a tuple of this size that begins with this word."""
    if not isinstance(value, tuple) or len(value) != size:
        return False
    # Only a string is compared, because other values may have an equality of their own.
    return isinstance(value[0], str) and value[0] == word


def is_step(value):
    """True for an undo or a redo command."""
    return (is_form(value, "undo", 2) or is_form(value, "redo", 2)) and is_amount(value[1])


def is_repeat(value):
    """True for a repeat command."""
    if not is_form(value, "repeat", 3) or not is_integer(value[1], 1):
        return False
    steps = value[2]
    return isinstance(steps, tuple) and len(steps) > 0 and all([is_step(step) for step in steps])


def command_text(command):
    """The text of a command."""
    if command[0] == "repeat":
        steps = ", ".join([command_text(step) for step in command[2]])
        return f"{command[1]} {BEFORE_STEPS}{steps}{AFTER_STEPS}"
    word, what = command
    return f"{word} all" if what is None else f"{word} {what}"


def number_in(text):
    """The integer from 1 on that is written so; otherwise 0, which no command has."""
    if text.isascii() and text.isdigit() and text[0] != "0":
        return int(text)
    return 0


def step_in(text):
    """The undo or redo command with this text; otherwise a tuple that is no such command."""
    word, space, rest = text.partition(" ")
    amount = None if rest == "all" else number_in(rest)
    return (word, amount)


def command_in(text):
    """The command with this text; otherwise a tuple that is no command."""
    word, space, rest = text.partition(" ")
    if word == "do":
        return ("do", rest)
    if rest.startswith(BEFORE_STEPS) and rest.endswith(AFTER_STEPS):
        steps = rest[len(BEFORE_STEPS):-len(AFTER_STEPS)].split(", ")
        return ("repeat", number_in(word), tuple([step_in(step) for step in steps]))
    return step_in(text)


def place_after_steps(steps, place, size):
    """The number of items in the past after these commands, if `place` of `size` items were there."""
    for word, wanted in steps:
        if word == "undo":
            place -= number_moved(wanted, place)
        else:
            place += number_moved(wanted, size - place)
    return place


def shift_of_steps(steps, size):
    """By how much these commands move a place that never comes to an end of the line."""
    back = sum([number_moved(wanted, size) for word, wanted in steps if word == "undo"])
    ahead = sum([number_moved(wanted, size) for word, wanted in steps if word == "redo"])
    return ahead - back


def place_after_repeat(times, steps, place, size):
    """The number of items in the past after these commands were carried out so many times."""
    # One round moves each place by the same shift, but not beyond what becomes of the two ends.
    # After the first round the place is between these, and the shifts of the others add up.
    first = place_after_steps(steps, place, size)
    lowest = place_after_steps(steps, 0, size)
    highest = place_after_steps(steps, size, size)
    return max(lowest, min(highest, first + (times - 1) * shift_of_steps(steps, size)))


def place_after(command, place, size):
    """The number of items in the past after a command that is no do, if `place` of `size` items were there."""
    if command[0] == "repeat":
        return place_after_repeat(command[1], command[2], place, size)
    return place_after_steps((command,), place, size)


def after_command(present, command):
    """The history after this command, if `present` is the history before it."""
    if command[0] == "do":
        return present.do(command[1])
    place = place_after(command, len(present.past), len(present))
    return History(present.line[:place], present.line[place:])


class Program:
    """Commands that are carried out one after another; it never changes."""

    def __init__(self, *commands):
        for at, command in enumerate(commands):
            if not Program.is_command(command):
                raise InvalidProgram(at)
        self.commands = commands

    @classmethod
    def read(cls, text):
        """The program with this text."""
        if not isinstance(text, str):
            raise InvalidText(text)
        if text == "nothing":
            return cls()
        commands = [command_in(part) for part in text.split("; ")]
        if not all([Program.is_command(command) for command in commands]):
            raise InvalidText(text)
        return cls(*commands)

    @staticmethod
    def is_command(value):
        """True for a do, an undo, a redo or a repeat command."""
        if is_form(value, "do", 2):
            return is_name(value[1])
        return is_step(value) or is_repeat(value)

    @property
    def names(self):
        """The names of the do commands, in their sequence."""
        return tuple([command[1] for command in self.commands if command[0] == "do"])

    def each(self, history):
        """Yields the history after each command, a repeat being one."""
        check_history(history)
        present = history
        for command in self.commands:
            present = after_command(present, command)
            yield present

    def __call__(self, history):
        check_history(history)
        present = history
        for command in self.commands:
            present = after_command(present, command)
        return present

    def __add__(self, other):
        check_program(other)
        return Program(*self.commands, *other.commands)

    def __len__(self):
        return len(self.commands)

    def __contains__(self, x):
        # Only a name is compared, because other values may have an equality of their own.
        return is_name(x) and x in self.names

    def __eq__(self, other):
        return isinstance(other, Program) and self.commands == other.commands

    def __str__(self):
        if not self.commands:
            return "nothing"
        return "; ".join([command_text(command) for command in self.commands])

    def __repr__(self):
        return f"Program({len(self.commands)})"


def check_program(program):
    """Raises NotAProgram if this is not a program."""
    if not isinstance(program, Program):
        raise NotAProgram(program)
