"""A console: lines of text that change a history or ask for something."""

from undotables.bounds import bounds
from undotables.editors import Editor
from undotables.errors import InvalidLine, InvalidText
from undotables.outcomes import outcome
from undotables.programs import Program, command_in, number_in


def program_in(line, text):
    """The program with this text, which stands in this line."""
    try:
        return Program.read(text)
    except InvalidText:
        raise InvalidLine(line) from None


def plain_commands_in(line, text):
    """The commands of the program with this text, which stands in this line and has no repeats."""
    commands = program_in(line, text).commands
    if [command for command in commands if command[0] == "repeat"]:
        raise InvalidLine(line)
    return commands


def command_line(line):
    """The do, undo or redo command that this line is."""
    command = command_in(line)
    if command is None or command[0] == "repeat":
        raise InvalidLine(line)
    return command


def outcome_line(line, rest):
    """What is told for an outcome line with this rest behind its word."""
    length, space, text = rest.partition(" ")
    number = number_in(length)
    if number == 0 and length != "0":
        raise InvalidLine(line)
    kept, items, undone = outcome(program_in(line, text), number)
    return " ".join([str(kept), str(undone), *items])


def bounds_line(line, rest):
    """What is told for a bounds line with this rest behind its word."""
    found = bounds(program_in(line, rest))
    if not found:
        return "none"
    return " ".join(["always" if bound is None else str(bound) for bound in found])


class Console:
    """Keeps an editor, which lines of text change."""

    def __init__(self, *names):
        self.editor = Editor(*names)

    def run(self, line):
        """Carries out a line and returns what it tells."""
        if not isinstance(line, str):
            raise InvalidLine(line)
        word, space, rest = line.partition(" ")
        if word == "outcome":
            return outcome_line(line, rest)
        if word == "bounds":
            return bounds_line(line, rest)
        if line == "count":
            return str(len(self.editor))
        if line == "changed":
            return "yes" if self.editor.changed else "no"
        if line == "save":
            self.editor.save()
        elif line == "revert":
            self.editor.revert()
        elif word == "perform":
            self.editor.perform(plain_commands_in(line, rest))
        elif line != "show":
            self.editor.perform((command_line(line),))
        return str(self.editor.history)
