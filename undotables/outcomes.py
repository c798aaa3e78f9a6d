"""What a program leaves of a history of one length."""

from undotables.errors import InvalidLength
from undotables.histories import is_integer
from undotables.programs import check_program, place_after


def check_length(length):
    """Raises InvalidLength if this is not a length."""
    if not is_integer(length, 0):
        raise InvalidLength(length)


def left_of(program, length):
    """The number of old items that are kept, the indexes of the dos whose items are, and the number of undone items."""
    kept = place = length
    dos = []
    done = 0
    for command in program.commands:
        if command[0] == "do":
            # The future is discarded, and old items may be in it.
            kept = min(kept, place)
            del dos[place - kept:]
            dos.append(done)
            done += 1
            place += 1
        else:
            place = place_after(command, place, kept + len(dos))
    return kept, dos, kept + len(dos) - place


def outcome_of(program, length):
    """The outcome for a length."""
    kept, dos, undone = left_of(program, length)
    names = program.names
    return (kept, tuple([names[at] for at in dos]), undone)


def outcome(program, length):
    """The outcome for a length."""
    check_program(program)
    check_length(length)
    return outcome_of(program, length)


def outcomes(program, *lengths):
    """The outcomes for these lengths."""
    check_program(program)
    for length in lengths:
        check_length(length)
    return tuple([outcome_of(program, length) for length in lengths])


def word(program, length):
    """How the outcome for the next length results from that for this one."""
    check_program(program)
    check_length(length)
    kept, dos, undone = left_of(program, length)
    next_kept, next_dos, next_undone = left_of(program, length + 1)
    if next_kept == kept:
        return "old"
    if len(next_dos) < len(dos):
        return "item"
    return "undone" if next_undone > undone else "keep"


def kept_dos(program, length):
    """The indexes, among the do commands, of those whose items are kept."""
    check_program(program)
    check_length(length)
    kept, dos, undone = left_of(program, length)
    return tuple(dos)
