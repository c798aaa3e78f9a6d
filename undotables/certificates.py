"""Claims with certificates that the checker accepts."""

from undotables.bounds import bounds
from undotables.comparing import difference
from undotables.effects import effect_of
from undotables.observing import conflict, program_with


def parts_told(effect):
    """The three parts of an effect, as a claim or a certificate tells them."""
    return (effect.new_names, effect.undone_count, effect.changes)


def certify_effect(program):
    """The claim which effect the program has, and its certificate."""
    parts = parts_told(effect_of(program))
    return ("effect", program.commands, *parts), None


def certify_comparison(program, other):
    """The claim whether the programs have the same outcomes for all lengths, and its certificate."""
    length = difference(program, other)
    if length is None:
        return ("same", program.commands, other.commands), parts_told(effect_of(program))
    return ("different", program.commands, other.commands), length


def certify_bounds(program):
    """The claim which bounds the program has, and its certificate."""
    found = bounds(program)
    return ("bounds", program.commands, found), None


def certify_observations(*observations):
    """The claim whether some program has these outcomes, and its certificate."""
    program = program_with(*observations)
    if program is None:
        return ("impossible", observations), conflict(*observations)
    return ("observed", observations), program.commands
