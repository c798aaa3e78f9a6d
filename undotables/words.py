"""The words of all lengths at once, and what commands make of them.

The words "keep" and "undone" are what an undo or a redo changes. They stand in slots: first a slot for each new item
that is kept for the length 0, and behind these a slot for each length with one of these two words. `turns` is a list
of pairs (times, word): so many slots, from the first one on, have this word; the last pair has times None and stands
for all that are left. A new item with the word "undone" is in the future.

The words "old" and "item" stay what they are until the next do. `losses` is a list of tuples (ahead, times, what), in
the sequence of their lengths: so many lengths have the word, `ahead` lengths with a slot are ahead of them, and `what`
is "old" or, for "item", the index of the lost item among all new items that are kept for the length 0.

Runs are a list of pairs (times, what), which tell all words for the lengths from 0 on; the last one has times None.
"""


def runs_of(changes):
    """The runs of the effect that has these changes."""
    runs = []
    ahead = 0
    for length, times, what in changes:
        if length > ahead:
            runs.append((length - ahead, "keep"))
        runs.append((times, what))
        if times is None:
            return runs
        ahead = length + times
    runs.append((None, "keep"))
    return runs


def first_alike(items, index):
    """The index of the first of the neighbors of this item that have its name."""
    while index > 0 and items[index - 1] == items[index]:
        index = index - 1
    return index


def changes_of(names, runs):
    """The changes of the effect that has these new names and these runs."""
    changes = []
    kept = list(names)
    length = 0
    for times, what in runs:
        if isinstance(what, int):
            if what > 0 and kept[what - 1] == kept[what]:
                what = first_alike(kept, what)
            changes.append((length, 1, what))
            del kept[what]
        elif what != "keep":
            start, many, before = changes[-1] if changes else (0, 0, "keep")
            if before == what and start + many == length:
                changes[-1] = (start, None if times is None else many + times, what)
            else:
                changes.append((length, times, what))
        if times is None:
            break
        length = length + times
    return tuple(changes)


def state_of(names, undone, changes):
    """The losses and the turns of an effect with these parts."""
    losses = []
    turns = [(undone, "undone"), (len(names) - undone, "keep")]
    kept = list(range(len(names)))
    ahead = 0
    for times, what in runs_of(changes):
        if what == "keep" or what == "undone":
            turns.append((times, what))
            ahead = ahead if times is None else ahead + times
        else:
            losses.append((ahead, times, what if what == "old" else kept.pop(what)))
            if times is None:
                turns.append((None, "keep"))
    return losses, [(times, what) for times, what in turns if times != 0]


def turned(turns, many, word):
    """The turns in which the first so many slots with the other word have this one; all if `many` is None."""
    if many is None:
        return [(None, word)]
    whole = 0
    for at, (times, what) in enumerate(turns):
        if what != word:
            if times is None:
                return [(whole + many, word), (None, what)]
            if times > many:
                return [(whole + many, word), (times - many, what), *turns[at + 1:]]
            many = many - times
        elif times is None:
            break
        whole = whole + times
    return [(None, word)]


def apart(turns, size):
    """How many of the first so many slots, those of the new items, are kept, and the turns of the slots behind them."""
    kept = 0
    for at, (times, what) in enumerate(turns):
        if times is None or times > size:
            kept = kept + size if what == "keep" else kept
            return kept, [(None if times is None else times - size, what), *turns[at + 1:]]
        kept = kept + times if what == "keep" else kept
        size = size - times


def woven(losses, turns, place):
    """The runs with these losses and these turns, which begin behind so many slots."""
    if not losses:
        return turns
    runs = []
    at = 0
    for times, word in turns:
        end = None if times is None else place + times
        while at < len(losses) and (end is None or losses[at][0] < end):
            ahead, many, what = losses[at]
            if ahead > place:
                runs.append((ahead - place, word))
                place = ahead
            runs.append((many, what))
            if many is None:
                return runs
            at += 1
        runs.append((None if end is None else end - place, word))
        place = end
    return runs


def losses_after_do(losses, runs, inside, place):
    """The losses after a do, if these are not changed and these runs stand behind them and behind so many slots.

    `inside` is the number of new items in the past for the length 0. A history that is longer by one item in the future
    has one new item less in the past, as long as there are any; so has one that loses an item of the future.
    """
    made = list(losses)
    lost = [what for ahead, times, what in losses]
    past = [item for item in range(inside) if item not in lost]
    for times, what in runs:
        if what == "undone":
            many = len(past) if times is None else min(times, len(past))
            made.extend([(place, 1, item) for item in past[::-1][:many]])
            del past[len(past) - many:]
            if times is None or times > many:
                made.append((place, None if times is None else times - many, "old"))
        elif times is None and what == "keep":
            break
        elif what == "keep":
            place = place + times
        elif what == "old":
            made.append((place, times, what))
        elif what in past:
            past.remove(what)
            made.append((place, 1, what))
        else:
            made.append((place, 1, past.pop() if past else "old"))
    return made


def sum_of_amounts(steps, wanted):
    """The sum of the amounts of the commands with the word `wanted`."""
    return sum([amount for word, amount in steps if word == wanted])


def shortened(steps):
    """The shortest undo and redo commands that do the same on every line; only the first may have the amount None."""
    made = []
    for word, amount in steps:
        if made and made[-1][0] == word:
            before = made[-1][1]
            made[-1] = (word, None if before is None else before + amount)
        else:
            made.append((word, amount))
        # A step that is no longer than the one before it and the one behind it only makes these two meet earlier.
        while len(made) > 2 and is_between(made[-3][1], made[-2][1], made[-1][1]):
            whole = None if made[-3][1] is None else made[-3][1] - made[-2][1] + made[-1][1]
            del made[-3:]
            made.append((word, whole))
    return made


def is_between(before, amount, behind):
    """True if an amount is not greater than the one before it and the one behind it."""
    return (before is None or before >= amount) and amount <= behind


def steps_of_repeat(times, steps):
    """Undo and redo commands that do the same on every line as these ones carried out so many times."""
    alls = [at for at, (word, amount) in enumerate(steps) if amount is None]
    if alls:
        # What was before the last `all` makes no difference.
        return shortened(steps[alls[-1]:])
    if times == 1:
        return shortened(steps)
    twice = shortened(steps + steps)
    # Each further turn makes the greatest step longer, the one from an end of the first turn to one of the last.
    further = (times - 2) * abs(sum_of_amounts(steps, "undo") - sum_of_amounts(steps, "redo"))
    greatest = max([amount for word, amount in twice])
    return [(word, amount + further if amount == greatest else amount) for word, amount in twice]


def turned_by_all(turns, steps):
    """The turns after these undo and redo commands."""
    for word, amount in steps:
        turns = turned(turns, amount, "undone" if word == "undo" else "keep")
    return turns


def state_after_do(names, losses, turns, name):
    """The new items, the losses and the turns after a do that discards something."""
    size = len(names)
    times, word = turns[0]
    if word != "keep" or times < size or size == 0:
        inside, behind = apart(turns, size)
        losses = losses_after_do([], woven(losses, behind, 0), inside, 0)
        return names[:inside] + (name,), losses, [(None, "keep")]
    # Nothing is discarded for the lengths ahead of the first undone slot.
    place = times - size
    same = len(losses)
    while same > 0 and losses[same - 1][0] > place:
        same -= 1
    if same > 0 and losses[same - 1][1] is None:
        # No lengths are left behind an endless loss.
        return names + (name,), losses, [(None, "keep")]
    if turns[1:] == [(1, "undone"), (None, "keep")]:
        # Behind this slot the last new item alone is discarded, which was kept for all lengths so far.
        later = [(ahead - 1, many, what) for ahead, many, what in losses[same:]]
        losses = [*losses[:same], (place, 1, size - 1), *later]
    else:
        losses = losses_after_do(losses[:same], woven(losses[same:], turns[1:], place), size, place)
    return names + (name,), losses, [(None, "keep")]


def with_indexes(losses, size):
    """The losses with the index of each lost item among those that are kept until then."""
    made = []
    kept = list(range(size))
    for ahead, times, what in losses:
        if what != "old":
            index = kept.index(what)
            del kept[index]
            made.append((ahead, times, index))
        else:
            made.append((ahead, times, what))
    return made


def parts_after_state(names, losses, turns, commands):
    """The parts of an effect after these commands, if these are the new items, losses and turns before them."""
    for command in commands:
        word, what = command[0], command[1]
        if word == "do":
            if len(turns) == 1 and turns[0][1] == "keep":
                names = names + (what,)
            else:
                names, losses, turns = state_after_do(names, losses, turns, what)
        elif word == "repeat":
            turns = turned_by_all(turns, steps_of_repeat(what, command[2]))
        else:
            turns = turned(turns, what, "undone" if word == "undo" else "keep")
    inside, turns = apart(turns, len(names))
    return names, len(names) - inside, changes_of(names, woven(with_indexes(losses, len(names)), turns, 0))


def parts_of(commands):
    """The parts of the effect of these commands."""
    return parts_after_state((), [], [(None, "keep")], commands)


def parts_after(names, undone, changes, commands):
    """The parts of an effect after these commands, if these are its parts before them."""
    losses, turns = state_of(names, undone, changes)
    return parts_after_state(names, losses, turns, commands)
