"""Whether certificates show that claims are true.

Nothing is taken from the modules that make certificates: all answers come from runs for single lengths.
"""

from undotables.histories import is_amount, is_integer, is_name


def is_step(value):
    """True for an undo or a redo command."""
    if not isinstance(value, tuple) or len(value) != 2 or not isinstance(value[0], str):
        return False
    return (value[0] == "undo" or value[0] == "redo") and is_amount(value[1])


def is_do(value):
    """True for a do command."""
    if not isinstance(value, tuple) or len(value) != 2 or not isinstance(value[0], str):
        return False
    return value[0] == "do" and is_name(value[1])


def is_repeat(value):
    """True for a repeat command."""
    if not isinstance(value, tuple) or len(value) != 3 or not isinstance(value[0], str):
        return False
    word, times, steps = value
    if word != "repeat" or not is_integer(times, 1) or not isinstance(steps, tuple):
        return False
    return len(steps) > 0 and all([is_step(step) for step in steps])


def are_commands(value):
    """True for a tuple of commands."""
    if not isinstance(value, tuple):
        return False
    return all([is_do(command) or is_step(command) or is_repeat(command) for command in value])


def are_names(value):
    """True for a tuple of names."""
    return isinstance(value, tuple) and all([is_name(name) for name in value])


def after_steps(steps, place, size):
    """How many of `size` items are in the past after these commands, if `place` were there."""
    for word, amount in steps:
        if word == "undo":
            place = 0 if amount is None else max(0, place - amount)
        else:
            place = size if amount is None else min(size, place + amount)
    return place


def after_repeat(times, steps, place, size):
    """How many of `size` items are in the past after so many turns of these commands, if `place` were there."""
    place = after_steps(steps, place, size)
    if times == 1:
        return place
    # Every turn ends between the ends of turns from the two ends of the line. There a turn moves each place by the
    # same number, as far as these two allow; an amount None does no more than the whole size.
    lowest, highest = after_steps(steps, 0, size), after_steps(steps, size, size)
    amounts = [(word, size if amount is None else min(amount, size)) for word, amount in steps]
    move = sum([amount if word == "redo" else -amount for word, amount in amounts])
    return min(highest, max(lowest, place + (times - 1) * move))


def run_on(commands, length):
    """The number of old items that are kept, the indexes of the dos that are, and the number of undone items."""
    kept = past = length
    dos = []
    done = 0
    for command in commands:
        word, what = command[0], command[1]
        if word == "undo":
            past = 0 if what is None or what > past else past - what
        elif word == "redo":
            size = kept + len(dos)
            past = size if what is None or what > size - past else past + what
        elif word == "do":
            kept = min(kept, past)
            del dos[past - kept:]
            dos.append(done)
            done += 1
            past = kept + len(dos)
        else:
            past = after_repeat(what, command[2], past, kept + len(dos))
    return kept, dos, kept + len(dos) - past


def outcome_on(commands, length):
    """The outcome of a program for a length."""
    kept, dos, undone = run_on(commands, length)
    names = [command[1] for command in commands if command[0] == "do"]
    return (kept, tuple([names[do] for do in dos]), undone)


def reach_of(commands):
    """A length from which on all have the same word, and none loses a new item."""
    total = 0
    for command in commands:
        if command[0] == "do":
            total = total + 1
        elif command[0] == "repeat":
            total = total + command[1] * sum([amount for word, amount in command[2] if amount is not None])
        elif command[1] is not None:
            total = total + command[1]
    return 2 * total


def can_be_change(value, kept):
    """True if this has the form of a change, if these new items are kept before it."""
    if not isinstance(value, tuple) or len(value) != 3 or not is_integer(value[0], 0):
        return False
    length, times, what = value
    if isinstance(what, str):
        return (what == "undone" or what == "old" and len(kept) > 0) and (times is None or is_integer(times, 1))
    if not is_integer(times, 1) or times > 1 or not is_integer(what, 0) or what >= len(kept) - 1:
        return False
    return what == 0 or kept[what - 1] != kept[what]


def can_stand_behind(change, before):
    """True if a change can stand behind this other one."""
    length, times, what = before
    if times is None or change[0] < length + times:
        return False
    return isinstance(what, int) or change[2] != what or change[0] > length + times


def is_effect(names, count, changes):
    """True if these have the form of the three parts of an effect."""
    if not are_names(names) or not is_integer(count, 0) or count > len(names) or not isinstance(changes, tuple):
        return False
    kept = list(names)
    for at, change in enumerate(changes):
        if not can_be_change(change, kept) or at > 0 and not can_stand_behind(change, changes[at - 1]):
            return False
        if isinstance(change[2], int):
            del kept[change[2]]
    return True


def outcome_told(names, count, changes, at):
    """The outcome that an effect with these parts tells for a length."""
    kept = at
    items = list(names)
    for length, times, what in changes:
        many = max(0, at - length) if times is None else min(times, max(0, at - length))
        if what == "undone":
            count = count + many
        elif what == "old":
            kept = kept - many
        elif many > 0:
            del items[what]
    return (kept, tuple(items), count)


def has_effect(commands, names, count, changes):
    """True if these are the parts of the effect of a program."""
    if not is_effect(names, count, changes):
        return False
    # Where a program leaves what an effect tells for two lengths, and the effect has one word in between, the program
    # has this word there too: no other words give the same sums. So the ends of all runs are enough, and, behind the
    # last one and the reach, two neighbors.
    ends = [0]
    for length, times, what in changes:
        ends.extend([length, length if times is None else length + times])
    far = max(ends[-1], reach_of(commands))
    for length in sorted(set([*ends, far, far + 1])):
        if outcome_on(commands, length) != outcome_told(names, count, changes, length):
            return False
    return True


def has_bounds(commands, bounds):
    """True if these are the bounds of a program."""
    dos = len([command for command in commands if command[0] == "do"])
    if not isinstance(bounds, tuple) or len(bounds) != dos:
        return False
    if not all([bound is None or is_integer(bound, 0) for bound in bounds]):
        return False
    # What is kept for the reach is always kept.
    far = reach_of(commands)
    ends = [far if bound is None else bound for bound in bounds]
    lengths = sorted(set([max(0, end - less) for end in ends for less in (0, 1)]))
    kept = {length: run_on(commands, length)[1] for length in lengths}
    for do, bound in enumerate(bounds):
        if bound is None:
            if do not in kept[far]:
                return False
        elif do in kept[bound] or bound > 0 and do not in kept[bound - 1]:
            return False
    return True


def is_observation(value):
    """True for a tuple of a length and what may be an outcome."""
    if not isinstance(value, tuple) or len(value) != 4:
        return False
    length, kept, items, undone = value
    return is_integer(length, 0) and is_integer(kept, 0) and are_names(items) and is_integer(undone, 0)


def are_observations(value):
    """True for a tuple of observations with ascending lengths."""
    if not isinstance(value, tuple) or not all([is_observation(one) for one in value]):
        return False
    return all([value[at][0] < value[at + 1][0] for at in range(len(value) - 1)])


def cannot_be(observation):
    """True if no program has this outcome for this length."""
    length, kept, items, undone = observation
    return kept > length or undone > kept + len(items) or len(items) == 0 and kept != length


def are_some_of(items, others):
    """True if these items are the others without some of them, or without none."""
    left = list(others)
    for item in items:
        if item not in left:
            return False
        left = left[left.index(item) + 1:]
    return True


def cannot_both_be(observation, following):
    """True if no program has both of these neighboring outcomes."""
    length, kept, items, undone = observation
    next_length, next_kept, next_items, next_undone = following
    if items[-1:] != next_items[-1:] or not are_some_of(next_items, items) or next_undone < undone:
        return True
    grown = next_kept - kept
    return grown > next_length - length or grown < len(items) - len(next_items) + next_undone - undone


def is_conflict(value, observations):
    """True if this is a conflict of these observations."""
    if not isinstance(value, tuple) or not 1 <= len(value) <= 2:
        return False
    if not all([is_integer(index, 0) and index < len(observations) for index in value]):
        return False
    if len(value) == 1:
        return cannot_be(observations[value[0]])
    return value[1] == value[0] + 1 and cannot_both_be(observations[value[0]], observations[value[1]])


def are_outcomes(commands, observations):
    """True if a program has all these outcomes."""
    for observation in observations:
        if outcome_on(commands, observation[0]) != observation[1:]:
            return False
    return True


def accepts_of_program(kind, parts, certificate):
    """True if a claim of this kind about a program is shown to be true."""
    if not are_commands(parts[0]):
        return False
    if kind == "effect" and len(parts) == 4:
        return certificate is None and has_effect(*parts)
    if kind == "bounds" and len(parts) == 2:
        return certificate is None and has_bounds(*parts)
    if len(parts) != 2 or not are_commands(parts[1]):
        return False
    if kind == "different":
        return is_integer(certificate, 0) and outcome_on(parts[0], certificate) != outcome_on(parts[1], certificate)
    if kind != "same" or not isinstance(certificate, tuple) or len(certificate) != 3:
        return False
    return has_effect(parts[0], *certificate) and has_effect(parts[1], *certificate)


def accepts(claim, certificate):
    """True if the certificate shows that the claim is true."""
    if not isinstance(claim, tuple) or len(claim) < 2 or not isinstance(claim[0], str):
        return False
    kind = claim[0]
    parts = claim[1:]
    if kind != "observed" and kind != "impossible":
        return accepts_of_program(kind, parts, certificate)
    if len(parts) != 1 or not are_observations(parts[0]):
        return False
    if kind == "impossible":
        return is_conflict(certificate, parts[0])
    return are_commands(certificate) and are_outcomes(certificate, parts[0])
