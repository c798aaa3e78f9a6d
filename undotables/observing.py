"""Whether observed outcomes can be those of one program."""

from undotables.building import program_for
from undotables.effects import Effect
from undotables.errors import InvalidObservations
from undotables.histories import is_integer, is_name
from undotables.words import changes_of


def is_observation(value):
    """True for a tuple of a length and what may be an outcome."""
    if not isinstance(value, tuple) or len(value) != 4:
        return False
    length, kept, items, undone = value
    if not is_integer(length, 0) or not is_integer(kept, 0) or not isinstance(items, tuple):
        return False
    return all([is_name(item) for item in items]) and is_integer(undone, 0)


def check_observations(observations):
    """Raises InvalidObservations if these are not observations of greater and greater lengths."""
    for at, value in enumerate(observations):
        if not is_observation(value) or at > 0 and value[0] <= observations[at - 1][0]:
            raise InvalidObservations(at)


def can_be(observation):
    """True if some program has this outcome for this length."""
    length, kept, items, undone = observation
    return kept <= length and undone <= kept + len(items) and (len(items) > 0 or kept == length)


def is_left_of(items, others):
    """True if these items are the others without some of them, or without none."""
    found = 0
    for other in others:
        if found < len(items) and items[found] == other:
            found += 1
    return found == len(items)


def can_follow(observation, before):
    """True if two observations that can be can also be neighbors."""
    length, kept, items, undone = observation
    length_before, kept_before, items_before, undone_before = before
    # Without items the last ones are empty.
    if items[-1:] != items_before[-1:] or not is_left_of(items, items_before) or undone < undone_before:
        return False
    lost = len(items_before) - len(items)
    return lost + undone - undone_before <= kept - kept_before <= length - length_before


def conflict_of(observations):
    """The first conflict of these observations, or None; a single one is ahead of two neighbors."""
    for at, observation in enumerate(observations):
        if not can_be(observation):
            return (at,)
    for at in range(len(observations) - 1):
        if not can_follow(observations[at + 1], observations[at]):
            return (at, at + 1)
    return None


def losses_between(items, others):
    """The index of each item that is lost, one after another, until these others are left."""
    losses = []
    found = 0
    # The last item stays the last one.
    for item in items[:-1]:
        if found < len(others) - 1 and others[found] == item:
            found += 1
        else:
            losses.append(found)
    return losses


def runs_between(before, observation):
    """Words of the lengths between two neighbors without a conflict."""
    length, kept, items, undone = observation
    length_before, kept_before, items_before, undone_before = before
    losses = [(1, what) for what in losses_between(items_before, items)]
    gained = undone - undone_before
    olds = length - length_before - (kept - kept_before)
    runs = [(olds, "old"), (gained, "undone"), (kept - kept_before - gained - len(losses), "keep")]
    return losses + [(times, what) for times, what in runs if times > 0]


def effect_with(observations):
    """An effect with these outcomes, of which there is at least one and which have no conflict."""
    length, kept, names, undone = observations[0]
    # As many new items as possible are undone for the length 0, so the fewest old ones have to be.
    count = min(undone, len(names))
    before = (0, 0, names, count)
    runs = []
    for observation in observations:
        runs.extend(runs_between(before, observation))
        before = observation
    return Effect(names, count, changes_of(names, runs))


def program_with(*observations):
    """A program with these outcomes for these lengths, or None if there is none."""
    check_observations(observations)
    if conflict_of(observations) is not None:
        return None
    return program_for(effect_with(observations) if observations else Effect())


def conflict(*observations):
    """Which observations cannot be those of one program: None, the index of one, or those of two neighbors."""
    check_observations(observations)
    return conflict_of(observations)
