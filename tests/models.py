"""Other ways of working out what programs leave, and drawn programs and effects, for the tests to compare with."""
import itertools

from undotables.effects import Effect
from undotables.programs import Program

BIG = 10 ** 59
STEPS = tuple((word, amount) for word in ("undo", "redo") for amount in (1, 2, None))
SMALL_COMMANDS = (("do", "a"), ("do", "b"), *STEPS, ("repeat", 2, (("undo", 2), ("redo", 1))))


def one_by_one(commands, past, future):
    """What is left of the two lists, with every item moved and every repeat made on its own."""
    past, future = list(past), list(future)
    for command in commands:
        if command[0] == "repeat":
            for turn in range(command[1]):
                past, future = one_by_one(command[2], past, future)
        elif command[0] == "do":
            past, future = past + [command[1]], []
        else:
            given, taken = (past, future) if command[0] == "undo" else (future, past)
            for move in range(len(given) if command[1] is None else min(command[1], len(given))):
                if command[0] == "undo":
                    taken.insert(0, given.pop())
                else:
                    taken.append(given.pop(0))
    return past, future


def numbered(commands):
    """The commands, with dos of pairs (number of the do, name)."""
    numbers = itertools.count()
    return [("do", (next(numbers), command[1])) if command[0] == "do" else command for command in commands]


def left_one_by_one(program, length):
    """The outcome for a length, and the kept dos, from a run on lists."""
    past, future = one_by_one(numbered(program.commands), range(length), ())
    line = past + future
    old = [item for item in line if isinstance(item, int)]
    new = line[len(old):]
    assert old == list(range(len(old))) and new == sorted(new)
    return (len(old), tuple(name for number, name in new), len(future)), tuple(number for number, name in new)


def clamped(lowest, highest, number):
    return max(lowest, min(highest, number))


def one_then_other(one, other):
    """Two maps of a place, one after the other; each is (lowest, highest, shift)."""
    return (clamped(other[0], other[1], one[0] + other[2]), clamped(other[0], other[1], one[1] + other[2]),
            one[2] + other[2])


def map_of(command, size):
    """What the command makes of a place on a line of this size, with the turns of a repeat doubled again and again."""
    whole = (0, size, 0)
    if command[0] == "repeat":
        one, times = whole, command[1]
        for step in command[2]:
            one = one_then_other(one, map_of(step, size))
        while times:
            whole = one_then_other(whole, one) if times % 2 else whole
            one, times = one_then_other(one, one), times // 2
        return whole
    amount = size if command[1] is None else command[1]
    return (0, size, -amount if command[0] == "undo" else amount)


def left_by_doubling(program, length):
    """The outcome for a length, and the kept dos, from a line of which only the new items are written out."""
    old, new, place = length, [], length
    for command in numbered(program.commands):
        if command[0] == "do":
            new = new[:max(0, place - old)] + [command[1]]
            old = min(old, place)
            place = old + len(new)
        else:
            lowest, highest, shift = map_of(command, old + len(new))
            place = clamped(lowest, highest, place + shift)
    undone = old + len(new) - place
    return (old, tuple(name for number, name in new), undone), tuple(number for number, name in new)


def reach(program):
    """The reach of a program, from its definition."""
    def amounts(commands):
        for command in commands:
            if command[0] == "repeat":
                yield command[1] * sum(amounts(command[2]))
            else:
                yield 1 if command[0] == "do" else command[1] or 0
    return 2 * sum(amounts(program.commands))


def small_programs(most):
    """All programs of up to so many small commands."""
    for many in range(most + 1):
        for commands in itertools.product(SMALL_COMMANDS, repeat=many):
            yield Program(*commands)


def drawn_step(random, most):
    amount = None if random.random() < 0.1 else random.randint(1, random.choice((2, 4, most)))
    return (random.choice(("undo", "redo")), amount)


def drawn_program(random, many, most, turns):
    """A program of so many commands with amounts and turns up to these."""
    commands = []
    for at in range(many):
        kind = random.choice(("do", "step", "step", "repeat"))
        if kind == "do":
            commands.append(("do", random.choice(("a", "a", "b", "abcdefgh"))))
        elif kind == "step":
            commands.append(drawn_step(random, most))
        else:
            steps = tuple(drawn_step(random, most) for step in range(random.randint(1, 4)))
            commands.append(("repeat", random.randint(1, turns), steps))
    return Program(*commands)


def firsts(names):
    """The indexes that a change can have while these new items are kept."""
    return [at for at in range(len(names) - 1) if at == 0 or names[at - 1] != names[at]]


def drawn_effect(random, items, changes, most):
    """An effect with so many items, so many changes, or fewer if one never ends, and lengths and times up to these."""
    names = tuple(random.choice(("a", "b", "abcdefgh")) for at in range(items))
    kept, made, free = list(names), [], 0
    while len(made) < changes and (not made or made[-1][1] is not None):
        start = free + random.choice((0, 0, 0, 1, random.randint(1, most)))
        what = random.choice(["undone", "old", "item"] if names else ["undone"])
        if what == "item" and len(kept) > 1:
            what = random.choice(firsts(kept))
            del kept[what]
            times = 1
        else:
            what = "undone" if what == "item" else what
            start += bool(made) and made[-1][2] == what and start == free
            times = random.choice((1, 1, 2, random.randint(1, most), random.randint(1, most)))
            times = None if random.random() < 0.03 else times
        made.append((start, times, what))
        free = start + (times or 0)
    return Effect(names, random.randint(0, items), tuple(made))


def cut_in_two(random, command):
    """Commands that do the same as this one."""
    word, what = command[0], command[1]
    if word == "repeat" and what > 1:
        first = random.randint(1, what - 1)
        return [("repeat", first, command[2]), ("repeat", what - first, command[2])]
    if word == "repeat":
        return list(command[2])
    if word != "do" and what is not None and what > 1:
        first = random.randint(1, what - 1)
        return [(word, first), (word, what - first)]
    if word != "do" and what is None:
        return [(word, random.randint(1, 5)), (word, None)]
    return [("do", "b"), ("undo", 1), command] if word == "do" else [("repeat", 1, (command,))]


def changed(random, command, other):
    """The command with another amount or number of turns, or this other one."""
    if command[0] != "do" and command[1] is not None and random.random() < 0.7:
        return (command[0], max(1, command[1] + random.choice((-2, -1, 1, 2))), *command[2:])
    return other


def made_of(random, program, other):
    """A program that differs a little from this one, or not in what it leaves; now and then the other one."""
    commands = list(program.commands)
    at = random.randint(0, len(commands))
    way = random.choice(("change", "change", "leave out", "put in", "cut", "exchange", "discarded", "other"))
    some = random.choice(other.commands) if other.commands else ("do", "b")
    if way == "put in":
        commands[at:at] = [some]
    elif way == "discarded":
        commands[at:at] = [("do", "b"), ("undo", 1), ("do", "a")]
    elif way == "other":
        return other
    elif at < len(commands):
        new = {"change": [changed(random, commands[at], some)], "leave out": [],
               "cut": cut_in_two(random, commands[at]), "exchange": commands[at:at + 2][::-1]}[way]
        commands[at:at + (2 if way == "exchange" else 1)] = new
    return Program(*commands)


def effect_by_outcomes(program):
    """The three parts of the effect, read off the outcomes for all lengths up to the reach and two more."""
    told = [left_one_by_one(program, length)[0] for length in range(reach(program) + 3)]
    words = []
    for (kept, items, undone), (next_kept, next_items, next_undone) in zip(told, told[1:]):
        if len(next_items) < len(items):
            words.append([at for at in range(len(items)) if items[:at] + items[at + 1:] == next_items][0])
        else:
            words.append("old" if next_kept == kept else "undone" if next_undone > undone else "keep")
    changes = []
    for length, what in enumerate(words):
        if isinstance(what, int):
            changes.append((length, 1, what))
        elif what != "keep" and length > 0 and words[length - 1] == what:
            changes[-1] = (changes[-1][0], changes[-1][1] + 1, what)
        elif what != "keep":
            changes.append((length, 1, what))
    if words[-1] != "keep":
        changes[-1] = (changes[-1][0], None, words[-1])
    return told[0][1], told[0][2], tuple(changes)


def bounds_one_by_one(program):
    """The bounds, from going through all lengths up to the reach and one more."""
    found = [None] * len(program.names)
    for length in range(reach(program) + 1, -1, -1):
        kept = left_one_by_one(program, length)[1]
        found = [bound if at in kept else length for at, bound in enumerate(found)]
    return tuple(found)
