"""Whether programs leave the same, and where they do not."""

from undotables.effects import effect_of


def same(program, other):
    """True if both programs have the same outcomes for all lengths."""
    return effect_of(program) == effect_of(other)


def first_other_word(changes, others):
    """The least length whose word is not the same in both of these changes, which are not equal."""
    at = 0
    while at < min(len(changes), len(others)) and changes[at] == others[at]:
        at += 1
    if at == len(changes):
        return others[at][0]
    if at == len(others):
        return changes[at][0]
    (length, times, what), (other_length, other_times, other_what) = changes[at], others[at]
    if length != other_length or what != other_what:
        return min(length, other_length)
    # The word behind the shorter one of two runs of the same word is another one.
    return length + min([number for number in (times, other_times) if number is not None])


def difference(program, other):
    """The least length for which the outcomes of the programs differ, or None."""
    one, two = effect_of(program), effect_of(other)
    if one == two:
        return None
    if one.new_names != two.new_names or one.undone_count != two.undone_count:
        return 0
    # The word of a length tells the outcome for the next one.
    return first_other_word(one.changes, two.changes) + 1


def alike(*programs):
    """True if all these programs have the same outcomes for all lengths."""
    effects = [effect_of(program) for program in programs]
    return all([effect == effects[0] for effect in effects])
