"""Programs that have a given effect."""

from undotables.effects import check_effect
from undotables.programs import Program
from undotables.words import runs_of


def steps_for(runs):
    """Undo and redo commands that turn lengths, all with the word "keep" at first, to these runs of it and "undone"."""
    ends = []
    end = 0
    for times, what in runs:
        end = None if times is None else end + times
        if times != 0:
            ends.append((end, what))
    # Each command changes everything ahead of the end of its run, so the last runs are made first.
    steps = []
    present = "keep"
    for end, what in ends[::-1]:
        if what != present:
            steps.append(("undo" if what == "undone" else "redo", end))
            present = what
    return steps


def losses_of(effect):
    """For each new item the length whose word is that it is lost, or None."""
    losses = [None] * len(effect.new_names)
    kept = list(range(len(effect.new_names)))
    for length, times, what in effect.changes:
        if isinstance(what, int):
            losses[kept.pop(what)] = length
    return losses


def growing_up_to(effect, length, losses):
    """How many lengths up to this one have a shorter line than the next, if only these losses are made so far."""
    # A run of "old" that begins before a loss also ends before it.
    olds = [times for start, times, what in effect.changes if what == "old" and start < length]
    return length + 1 - sum(olds) - len([loss for loss in losses if loss is not None and loss < length])


def commands_for_items(effect):
    """Do commands for the new items, each followed by the steps after which the next one loses it where it is lost."""
    commands = []
    losses = losses_of(effect)
    for at, name in enumerate(effect.new_names):
        commands.append(("do", name))
        if losses[at] is not None:
            # One item remains undone, and only where the history is longer than the loss.
            many = at + 1 + growing_up_to(effect, losses[at], losses[:at])
            commands.append(("undo", many))
            commands.append(("redo", many - 1))
    return commands


def program_for(effect):
    """A program with this effect."""
    check_effect(effect)
    runs = runs_of(effect.changes)
    # The first do turns each "undone" to "old"; the steps behind the last do leave "old" and the losses as they are.
    olds = [(times, "undone" if what == "old" else "keep") for times, what in runs]
    undone = effect.undone_count
    items = [(undone, "undone"), (len(effect.new_names) - undone, "keep")]
    others = [(times, what) for times, what in runs if what == "keep" or what == "undone"]
    before = steps_for(olds) if effect.new_names else []
    between = commands_for_items(effect)
    behind = steps_for(items + others)
    return Program(*before, *between, *behind)
