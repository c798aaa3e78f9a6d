"""Programs that have a given effect."""

from undotables.effects import check_effect
from undotables.programs import program_of
from undotables.words import runs_of


def steps_for(turns):
    """Undo and redo commands after which the words "keep" and "undone" take these turns, if all are "keep" at first.

    The last turn also stands for all that are behind it.
    """
    steps = []
    end = 0
    before = turns[0][1]
    for times, word in turns:
        if times == 0:
            continue
        if word != before and end > 0:
            steps.append(("undo" if before == "undone" else "redo", end))
        before = word
        end = None if times is None else end + times
    if before == "undone":
        steps.append(("undo", None))
    # Each command changes everything ahead of its end, so the last turns are made first.
    return steps[::-1]


def amounts_for_items(effect):
    """For each new item how many items to undo after it, and all but one to redo, so that it is lost where it is."""
    amounts = [None] * len(effect.new_names)
    kept = list(range(len(effect.new_names)))
    olds = 0
    for length, times, what in effect.changes:
        if isinstance(what, int):
            # One item remains undone, and only where the line is longer than the one that keeps the item: there are
            # the old items without the lost ones, those ahead of the item that are kept, the item, and one more.
            amounts[kept.pop(what)] = length - olds + what + 2
        elif what == "old" and times is not None:
            olds = olds + times
    return amounts


def commands_for_items(effect):
    """Do commands for the new items, each followed by the steps after which the next one loses it where it is lost."""
    commands = []
    amounts = amounts_for_items(effect)
    for at, name in enumerate(effect.new_names):
        commands.append(("do", name))
        if amounts[at] is not None:
            commands.append(("undo", amounts[at]))
            commands.append(("redo", amounts[at] - 1))
    return commands


def program_for(effect):
    """A program with this effect."""
    check_effect(effect)
    runs = runs_of(effect.changes)
    undone = effect.undone_count
    items = [(undone, "undone"), (len(effect.new_names) - undone, "keep")]
    others = [(times, what) for times, what in runs if what == "keep" or what == "undone"]
    # The first do turns each "undone" to "old"; the steps behind the last do leave "old" and the losses as they are.
    olds = [(times, "undone" if what == "old" else "keep") for times, what in runs]
    return program_of(tuple(steps_for(olds) + commands_for_items(effect) + steps_for(items + others)))
