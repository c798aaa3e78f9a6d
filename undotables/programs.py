"""Programs: commands that are carried out one after another, and their texts."""

from undotables.errors import InvalidProgram, InvalidText, NotAProgram
from undotables.histories import check_history, history_with, is_amount, is_integer, is_name, number_moved

BEFORE_STEPS = "times ("
AFTER_STEPS = ")"


def is_step(value):
    """True for an undo or a redo command."""
    if not isinstance(value, tuple) or len(value) != 2 or not isinstance(value[0], str):
        return False
    return (value[0] == "undo" or value[0] == "redo") and is_amount(value[1])


def is_repeat(value):
    """True for a repeat command."""
    if not isinstance(value, tuple) or len(value) != 3 or not isinstance(value[0], str):
        return False
    word, times, steps = value
    if word != "repeat" or not is_integer(times, 1) or not isinstance(steps, tuple):
        return False
    return len(steps) > 0 and all([is_step(step) for step in steps])


def command_text(command):
    """The text of a command."""
    if command[0] == "repeat":
        steps = ", ".join([command_text(step) for step in command[2]])
        return f"{command[1]} {BEFORE_STEPS}{steps}{AFTER_STEPS}"
    word, what = command
    return f"{word} all" if what is None else f"{word} {what}"


def number_in(text):
    """The integer from 1 on that is written so; otherwise 0, which no command has."""
    if text.isascii() and text.isdigit() and text[0] != "0":
        return int(text)
    return 0


def step_in(word, amount):
    """The undo or redo command with this word and this text of its amount, or None if there is none."""
    if word != "undo" and word != "redo":
        return None
    if amount == "all":
        return (word, None)
    number = number_in(amount)
    return (word, number) if number > 0 else None


def repeat_in(times, rest):
    """The repeat command with this text of its times and this rest of its text, or None if there is none."""
    number = number_in(times)
    if number == 0 or not rest.startswith(BEFORE_STEPS) or not rest.endswith(AFTER_STEPS):
        return None
    steps = []
    for text in rest[len(BEFORE_STEPS):-len(AFTER_STEPS)].split(", "):
        word, space, amount = text.partition(" ")
        step = step_in(word, amount)
        if step is None:
            return None
        steps.append(step)
    return ("repeat", number, tuple(steps))


def command_in(text):
    """The command with this text, or None if there is none."""
    word, space, rest = text.partition(" ")
    if word == "do":
        return ("do", rest) if is_name(rest) else None
    return step_in(word, rest) or repeat_in(word, rest)


def place_after_steps(steps, place, size):
    """The number of items in the past after these commands, if `place` of `size` items were there."""
    for word, amount in steps:
        if word == "undo":
            place = 0 if amount is None or amount > place else place - amount
        else:
            place = size if amount is None or amount > size - place else place + amount
    return place


def shift_of_steps(steps, size):
    """By how much these commands move a place that never comes to an end of the line."""
    back = sum([number_moved(amount, size) for word, amount in steps if word == "undo"])
    ahead = sum([number_moved(amount, size) for word, amount in steps if word == "redo"])
    return ahead - back


def place_after_repeat(times, steps, place, size):
    """The number of items in the past after these commands were carried out so many times."""
    first = place_after_steps(steps, place, size)
    if times == 1 or first == place:
        return first
    # One round moves each place by the same shift, but not beyond what becomes of the two ends.
    # After the first round the place is between these, and the shifts of the others add up.
    lowest = place_after_steps(steps, 0, size)
    highest = place_after_steps(steps, size, size)
    return max(lowest, min(highest, first + (times - 1) * shift_of_steps(steps, size)))


def place_after(command, place, size):
    """The number of items in the past after a command that is no do, if `place` of `size` items were there."""
    if command[0] == "repeat":
        return place_after_repeat(command[1], command[2], place, size)
    return place_after_steps((command,), place, size)


class Program:
    """Commands that are carried out one after another; it never changes."""

    def __init__(self, *commands, joined=()):
        for at, command in enumerate(commands):
            if not Program.is_command(command):
                raise InvalidProgram(at)
        # What programs have is known to be commands, so a sum, which joins them, need not look at each of them again.
        for program in joined:
            check_program(program)
            commands = commands + program.commands
        self.commands = commands

    @classmethod
    def read(cls, text):
        """The program with this text."""
        if not isinstance(text, str):
            raise InvalidText(text)
        if text == "nothing":
            return cls()
        # Commands often occur again in a program; each is read once.
        known = {}
        commands = []
        for part in text.split("; "):
            if part not in known:
                known[part] = command_in(part)
                if known[part] is None:
                    raise InvalidText(text)
            commands.append(known[part])
        return program_of(tuple(commands))

    @staticmethod
    def is_command(value):
        """True for a do, an undo, a redo or a repeat command."""
        if not isinstance(value, tuple) or len(value) != 2:
            return is_repeat(value)
        if isinstance(value[0], str) and value[0] == "do":
            return is_name(value[1])
        return is_step(value)

    @property
    def names(self):
        """The names of the do commands, in their sequence."""
        return tuple([command[1] for command in self.commands if command[0] == "do"])

    def each(self, history):
        """Yields the history after each command, a repeat being one."""
        check_history(history)
        line = history.past + history.future
        place = len(history.past)
        for command in self.commands:
            if command[0] == "do":
                line = line[:place] + (command[1],)
                place += 1
            else:
                place = place_after(command, place, len(line))
            yield history_with(line[:place], line[place:])

    def __call__(self, history):
        check_history(history)
        line = [*history.past, *history.future]
        place = len(history.past)
        for command in self.commands:
            if command[0] == "do":
                line[place:] = [command[1]]
                place += 1
            else:
                place = place_after(command, place, len(line))
        return history_with(tuple(line[:place]), tuple(line[place:]))

    def __add__(self, other):
        return Program(joined=(self, other))

    def __len__(self):
        return len(self.commands)

    def __contains__(self, x):
        # Only a name is compared, because other values may have an equality of their own.
        return is_name(x) and x in self.names

    def __eq__(self, other):
        return isinstance(other, Program) and self.commands == other.commands

    def __str__(self):
        if not self.commands:
            return "nothing"
        return "; ".join([command_text(command) for command in self.commands])

    def __repr__(self):
        return f"Program({len(self.commands)})"


def program_of(commands):
    """The program of these commands, which are known to be ones."""
    # Each of them would be looked at once more, were they passed to Program.
    made = Program()
    made.commands = commands
    return made


def check_program(program):
    """Raises NotAProgram if this is not a program."""
    if not isinstance(program, Program):
        raise NotAProgram(program)
