"""Up to which lengths the items of a program are kept."""

from undotables.building import program_for
from undotables.effects import effect_of
from undotables.programs import check_program
from undotables.words import parts_of


def numbered(commands):
    """The commands with the number of each do, from 0, in place of its name."""
    made = []
    done = 0
    for command in commands:
        if command[0] == "do":
            made.append(("do", done))
            done += 1
        else:
            made.append(command)
    return made


def bounds(program):
    """For each do command the least length for which its item is lost, or None if it is always kept."""
    check_program(program)
    # What is not kept for the length 0 is never kept.
    found = [0] * len(program.names)
    names, undone, changes = parts_of(numbered(program.commands))
    kept = list(names)
    for do in kept:
        found[do] = None
    for length, times, what in changes:
        if isinstance(what, int):
            found[kept.pop(what)] = length + 1
    return tuple(found)


def trimmed(program):
    """A program with the same effect that does only the items that are kept for some length."""
    # The dos of a program for an effect are those of the new items, which are kept for the length 0 at least.
    return program_for(effect_of(program))
