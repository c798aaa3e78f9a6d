"""The words of all lengths at once, and what commands make of them.

Runs are a list of pairs (times, what), which tell the words of the lengths from 0 on: so many lengths have this word.
`what` is "keep", "undone" or "old", or, for the word "item", the index of the item that is not kept any more. The
last pair has times None and stands for all lengths that are left.
"""


def runs_of(changes):
    """The runs of the effect that has these changes."""
    runs = []
    ahead = 0
    for length, times, what in changes:
        if length > ahead:
            runs.append((length - ahead, "keep"))
        runs.append((times, what))
        if times is None:
            return runs
        ahead = length + times
    runs.append((None, "keep"))
    return runs


def first_alike(items, index):
    """The index of the first of the neighbors of this item that have its name."""
    while index > 0 and items[index - 1] == items[index]:
        index = index - 1
    return index


def merged(runs):
    """The same words, with no run that continues the one before it."""
    made = []
    for times, what in runs:
        if not made or made[-1][1] != what or isinstance(what, int):
            made.append((times, what))
        elif times is None:
            made[-1] = (None, what)
        else:
            made[-1] = (made[-1][0] + times, what)
    return made


def changes_of(names, runs):
    """The changes of the effect that has these new names and these runs."""
    changes = []
    kept = list(names)
    length = 0
    for times, what in merged(runs):
        if isinstance(what, int):
            changes.append((length, 1, first_alike(kept, what)))
            del kept[what]
        elif what != "keep":
            changes.append((length, times, what))
        if times is not None:
            length = length + times
    return tuple(changes)


def turned(runs, many, before, after):
    """The runs in which the first so many words `before` are `after` instead; all of them if `many` is None."""
    made = []
    left = many
    for times, what in runs:
        if what != before or left == 0:
            made.append((times, what))
        elif left is None:
            made.append((times, after))
        elif times is not None and times <= left:
            made.append((times, after))
            left = left - times
        else:
            made.append((left, after))
            made.append((None if times is None else times - left, before))
            left = 0
    return made


def runs_after_do(runs, inside):
    """The runs after a do, if `inside` new items are in the past for the length 0."""
    # From here on `inside` is the number of new items in the past less that of old items in the future. While it is
    # above 0, a run that is longer by one item in the future has one new item less in the past.
    made = []
    for times, what in runs:
        if what == "keep" or what == "old":
            made.append((times, what))
        elif what == "undone":
            lost = max(0, inside if times is None else min(inside, times))
            made.extend([(1, inside - 1 - at) for at in range(lost)])
            if times is None:
                made.append((None, "old"))
            else:
                inside = inside - times
                if times > lost:
                    made.append((times - lost, "old"))
        else:
            made.append((1, min(what, inside - 1) if inside > 0 else "old"))
            inside = inside - 1
    return made


def sum_of_amounts(steps, wanted):
    """The sum of the amounts of the commands with the word `wanted`."""
    return sum([amount for word, amount in steps if word == wanted])


def shortened(steps):
    """The shortest undo and redo commands that do the same on every line; only the first may have the amount None."""
    made = []
    for word, amount in steps:
        if made and made[-1][0] == word:
            before = made[-1][1]
            made[-1] = (word, None if before is None else before + amount)
        else:
            made.append((word, amount))
        # A step that is no longer than the one before it and the one behind it only makes these two meet earlier.
        while len(made) > 2 and is_between(made[-3][1], made[-2][1], made[-1][1]):
            whole = None if made[-3][1] is None else made[-3][1] - made[-2][1] + made[-1][1]
            del made[-3:]
            made.append((word, whole))
    return made


def is_between(before, amount, behind):
    """True if an amount is not greater than the one before it and the one behind it."""
    return (before is None or before >= amount) and amount <= behind


def steps_of_repeat(times, steps):
    """Undo and redo commands that do the same on every line as these ones carried out so many times."""
    alls = [at for at, (word, amount) in enumerate(steps) if amount is None]
    if alls:
        # What was before the last `all` makes no difference.
        return shortened(steps[alls[-1]:])
    if times == 1:
        return shortened(steps)
    twice = shortened(steps + steps)
    # Each further turn makes the greatest step longer, the one from an end of the first turn to one of the last.
    further = (times - 2) * abs(sum_of_amounts(steps, "undo") - sum_of_amounts(steps, "redo"))
    greatest = max([amount for word, amount in twice])
    return [(word, amount + further if amount == greatest else amount) for word, amount in twice]


def plain_commands(commands):
    """Commands without a repeat that leave the same."""
    made = []
    for command in commands:
        if command[0] == "repeat":
            made.extend(steps_of_repeat(command[1], command[2]))
        else:
            made.append(command)
    return made


def state_after(state, commands):
    """The new names, the undone ones and the runs after these commands, if `state` is what they are before."""
    names, undone, runs = state
    for word, what in plain_commands(commands):
        if word == "do":
            inside = len(names) - undone
            names, undone, runs = names[:inside] + (what,), 0, runs_after_do(runs, inside)
            continue
        # For the length 0 new items move first; the amount that is left then changes words.
        before, after, movable = "keep", "undone", len(names) - undone
        if word == "redo":
            before, after, movable = "undone", "keep", undone
        moved = movable if what is None else min(what, movable)
        undone = undone + moved if word == "undo" else undone - moved
        if what is None or what > moved:
            runs = turned(runs, None if what is None else what - moved, before, after)
    return names, undone, runs


def parts_after(names, undone, changes, commands):
    """The parts of an effect after these commands, if these are its parts before them."""
    names, undone, runs = state_after((names, undone, runs_of(changes)), commands)
    return names, undone, changes_of(names, runs)
