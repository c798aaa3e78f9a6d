import itertools
import random
import unittest

from undotables.building import program_for
from undotables.errors import InvalidObservations
from undotables.observing import conflict, program_with
from undotables.outcomes import outcomes
from undotables.programs import Program
from models import BIG, drawn_effect, drawn_program, reach, small_programs
from values import NO_LENGTHS, NO_NAMES, NO_TUPLES

GOOD = (3, 2, ("a", "b"), 1)


def without_some(items):
    """All that is left of the items without some or none of them."""
    return {tuple(chosen) for many in range(len(items) + 1) for chosen in itertools.combinations(items, many)}


def is_subsequence(items, others):
    rest = iter(others)
    return all(item in rest for item in items)


def reasons_alone(observation):
    """The reasons of point 13 for which one observation cannot be."""
    length, kept, items, undone = observation
    return [reason for reason, holds in (
        ("kept is greater than length", kept > length),
        ("undone is greater than all", undone > kept + len(items)),
        ("no items and kept is not length", len(items) == 0 and kept != length)) if holds]


def reasons_together(one, two):
    """The reasons of point 13 for which two neighboring observations cannot both be."""
    items, others = one[2], two[2]
    gained = two[3] - one[3]
    return [reason for reason, holds in (
        ("one has items and the other one has none", (len(items) == 0) != (len(others) == 0)),
        ("the last items", len(items) > 0 and len(others) > 0 and items[-1] != others[-1]),
        ("not without some", not is_subsequence(others, items)),
        ("fewer undone", two[3] < one[3]),
        ("kept grows more", two[1] - one[1] > two[0] - one[0]),
        ("kept grows less", two[1] - one[1] < len(items) - len(others) + gained)) if holds]


def conflict_by_reasons(observations):
    for at, observation in enumerate(observations):
        if reasons_alone(observation):
            return (at,)
    for at in range(len(observations) - 1):
        if reasons_together(observations[at], observations[at + 1]):
            return (at, at + 1)
    return None


def next_outcomes(outcome):
    """What the outcome for one length more can be, from point 9."""
    kept, items, undone = outcome
    yield (kept + 1, items, undone)
    yield (kept + 1, items, undone + 1)
    if items:
        yield (kept, items, undone)
    for at in range(len(items) - 1):
        yield (kept + 1, items[:at] + items[at + 1:], undone)


def all_outcomes(most, lengths):
    """All tuples of the outcomes for the lengths from 0 on that programs with up to so many new items can have."""
    found = [((0, items, undone),) for many in range(most + 1) for items in itertools.product("ab", repeat=many)
             for undone in range(many + 1)]
    for length in range(lengths - 1):
        found = [told + (more,) for told in found for more in next_outcomes(told[-1])]
    return found


def observed(program, lengths):
    return tuple((length, *told) for length, told in zip(lengths, outcomes(program, *lengths)))


def drawn_lengths(random, most):
    lengths = {random.randint(0, random.choice((3, 12, most))) for at in range(random.randint(0, 6))}
    return sorted(lengths)


def otherwise(random, observation):
    """The observation with a number or a name otherwise."""
    parts = list(observation)
    at = random.randint(1, 3)
    if at != 2:
        parts[at] = max(0, parts[at] + random.choice((-3, -2, -1, 1, 2, 3)))
        return tuple(parts)
    items = list(parts[2])
    place = random.randint(0, len(items))
    items[place:place + random.randint(0, 1)] = random.choice(((), ("a",), ("b",)))
    parts[2] = tuple(items)
    return tuple(parts)


def ascending(observations):
    return all(one[0] < two[0] for one, two in zip(observations, observations[1:]))


class ObservingCase(unittest.TestCase):
    def check(self, observations):
        expected = conflict_by_reasons(observations)
        self.assertEqual(conflict(*observations), expected, observations)
        program = program_with(*observations)
        if expected is not None:
            self.assertIsNone(program, observations)
            self.assertTrue(all(type(index) is int for index in conflict(*observations)))
            return expected
        self.assertIsNone(conflict(*observations))
        self.assertIs(type(program), Program)
        self.assertEqual(Program(*program.commands), program)
        self.assertEqual(observed(program, [one[0] for one in observations]), observations)
        return expected


class OrdinaryTest(ObservingCase):
    def test_without_arguments(self):
        self.assertIsNone(conflict())
        self.assertIs(type(program_with()), Program)

    def test_one_observation(self):
        for length, kept, items, undone in itertools.product(range(4), range(5), ((), ("a",), ("a", "a")), range(7)):
            self.check(((length, kept, items, undone),))

    def test_each_reason_alone(self):
        for observations, expected, reasons in (
                (((3, 4, ("a",), 0),), (0,), ["kept is greater than length"]),
                (((3, 3, ("a",), 5),), (0,), ["undone is greater than all"]),
                (((3, 3, (), 4),), (0,), ["undone is greater than all"]),
                (((3, 2, (), 0),), (0,), ["no items and kept is not length"])):
            self.assertEqual(reasons_alone(observations[0]), reasons)
            self.assertEqual(self.check(observations), expected)
        for two, reason in (
                ((4, 4, (), 1), "one has items and the other one has none"),
                ((5, 4, ("a",), 1), "the last items"),
                ((5, 4, ("b", "b"), 1), "not without some"),
                ((5, 4, ("a", "a", "b"), 1), "not without some"),
                ((5, 4, ("a", "b"), 0), "fewer undone"),
                ((5, 5, ("a", "b"), 1), "kept grows more"),
                ((5, 1, ("a", "b"), 1), "kept grows less"),
                ((5, 2, ("b",), 1), "kept grows less"),
                ((5, 3, ("a", "b"), 3), "kept grows less"),
                ((5, 3, ("b",), 2), "kept grows less")):
            with self.subTest(two=two):
                self.assertIn(reason, reasons_together(GOOD, two))
                self.assertEqual(reasons_alone(two), [])
                self.assertEqual(self.check((GOOD, two)), (0, 1))
                self.assertEqual(self.check(((0, 0, ("a", "b"), 0), GOOD, two)), (1, 2))

    def test_no_items_and_then_some(self):
        self.assertEqual(self.check(((1, 1, (), 0), (2, 2, ("a",), 0))), (0, 1))
        self.assertEqual(self.check(((1, 1, ("a",), 0), (2, 2, (), 0))), (0, 1))
        self.assertIsNone(self.check(((1, 1, (), 0), (2, 2, (), 1))))
        self.assertEqual(self.check(((1, 1, (), 0), (2, 2, (), 2))), (0, 1))

    def test_just_no_conflict(self):
        for two in ((4, 3, ("a", "b"), 1), (4, 3, ("a", "b"), 2), (4, 3, ("b",), 1), (4, 2, ("a", "b"), 1),
                    (5, 4, ("b",), 2), (5, 2, ("a", "b"), 1), (5, 4, ("a", "b"), 3), (5, 3, ("b",), 1)):
            self.assertIsNone(self.check((GOOD, two)))

    def test_the_least_index(self):
        wrong, apart = (9, 9, ("b",), 99), (5, 9, ("a", "b"), 1)
        self.assertEqual(self.check((GOOD, (4, 5, ("b",), 0), wrong, (10, 99, (), 0))), (1,))
        self.assertEqual(self.check((GOOD, (4, 0, ("b",), 0), wrong)), (2,))
        self.assertEqual(self.check((GOOD, (4, 4, ("a",), 0), (5, 4, ("b",), 0))), (0, 1))
        self.assertEqual(self.check((GOOD, (4, 3, ("a", "b"), 1), apart)), (2,))
        self.assertEqual(self.check((GOOD, (4, 3, ("a", "b"), 1), (5, 4, ("b", "b"), 1), (6, 6, ("a",), 1))), (1, 2))

    def test_great_lengths(self):
        for length in (10 ** 30, BIG, 10 ** 130):
            self.assertIsNone(self.check(((length, 0, ("a",), 0), (2 * length, length, ("a",), length))))
            self.assertEqual(self.check(((length, 0, ("a",), 0), (2 * length, length, ("a",), length + 1))), (0, 1))
            self.assertIsNone(self.check(((0, 0, ("a", "a"), 2), (length, length - 1, ("a",), 3))))
            self.assertIsNone(self.check(((length, length, (), length), (length + 1, length + 1, (), length + 1))))
            self.assertIsNone(self.check(((1, 1, ("b", "a"), 1), (length, 2, ("a",), 1), (2 * length, 2, ("a",), 1))))
            self.assertEqual(self.check(((length, length + 1, ("a",), 0),)), (0,))
            self.assertEqual(self.check(((0, 0, ("a", "a"), 0), (length, length, ("a",), length + 1))), (0, 1))

    def test_olds_and_undone_by_turns(self):
        observations = [(0, 0, ("a", "b", "a", "b"), 0)]
        for turn in range(1, 40):
            length, kept, items, undone = observations[-1]
            if turn % 2:
                observations.append((length + 10 ** (turn % 31), kept, items, undone))
            else:
                observations.append((length + turn, kept + turn, items, undone + turn))
        observations.append((10 ** 35, observations[-1][1] + 9, ("a", "b"), observations[-1][3]))
        self.assertIsNone(self.check(tuple(observations)))

    def test_many_items(self):
        items = tuple("abcdefghijklmnopqrstuvwxyz" * 2)
        lengths = (10 ** 30, 10 ** 31, 10 ** 32)
        self.assertIsNone(self.check(((0, 0, items, 52), (lengths[0], 60, items[::2] + ("z",), 60),
                                      (lengths[1], 100, items[::4] + ("z",), 70), (lengths[2], 120, ("a", "z"), 71))))

    def test_names_are_not_passed(self):
        self.assertRaises(TypeError, program_with, observations=(GOOD,))
        self.assertRaises(TypeError, conflict, observations=(GOOD,))


class ComparedTest(ObservingCase):
    def test_observations_that_some_program_has(self):
        told = all_outcomes(4, 4)
        seen = {(first, second): set() for first in range(4) for second in range(first, 4)}
        for outcomes_of_one in told:
            for first, second in seen:
                seen[first, second].add((outcomes_of_one[first], outcomes_of_one[second]))
        few = [(kept, items, undone) for kept in range(4) for items in ((), ("a",), ("b",), ("a", "b"), ("b", "b"))
               for undone in range(5)]
        for first, second in seen:
            for one in few:
                if first == second:
                    self.assertEqual(conflict((first, *one)) is None, (one, one) in seen[first, second], one)
                    continue
                for two in few:
                    found = conflict((first, *one), (second, *two))
                    self.assertEqual(found is None, (one, two) in seen[first, second], (first, one, second, two))

    def test_true_observations(self):
        draw = random.Random(51)
        for program in small_programs(2):
            self.assertIsNone(self.check(observed(program, range(reach(program) + 2))))
        for most, turns in ((5, 3), (40, 10 ** 28), (BIG, BIG)):
            for turn in range(80):
                program = drawn_program(draw, draw.randint(0, 15), most, turns)
                lossy = program_for(drawn_effect(draw, draw.randint(0, 6), 8, most))
                for each in (program, lossy):
                    told = observed(each, drawn_lengths(draw, draw.choice((20, 2 * most, BIG))))
                    self.assertIsNone(self.check(told))
                    self.assertIsNone(self.check(tuple(one for one in told if draw.random() < 0.7)))

    def test_nearly_true_observations(self):
        draw = random.Random(52)
        found = []
        for turn in range(1500):
            most = draw.choice((5, 5, 40, BIG))
            program = program_for(drawn_effect(draw, draw.randint(0, 4), 5, most))
            told = list(observed(program, drawn_lengths(draw, most)))
            for change in range(draw.randint(1, 3) if told else 0):
                at = draw.randrange(len(told))
                told[at] = otherwise(draw, told[at])
            found.append(self.check(tuple(told)))
        self.assertTrue(min(found.count(None), found.count((0,)), found.count((0, 1)), found.count((1, 2))) > 20)

    def test_any_observations(self):
        draw = random.Random(53)
        for turn in range(1500):
            lengths = drawn_lengths(draw, draw.choice((6, BIG)))
            self.check(tuple((length, draw.randint(0, draw.choice((length, 6))),
                              tuple(draw.choice("ab") for at in range(draw.randint(0, 3))), draw.randint(0, 5))
                             for length in lengths))

    def test_the_same_again(self):
        self.assertEqual(program_with(GOOD), program_with(GOOD))
        self.assertEqual(program_with(), program_with())


class ErrorsTest(unittest.TestCase):
    def check_index(self, index, *observations):
        for function in (program_with, conflict):
            with self.assertRaises(InvalidObservations) as caught:
                function(*observations)
            self.assertEqual((type(caught.exception.index), caught.exception.index), (int, index))

    def check_wrong(self, value):
        with self.subTest(value=value):
            self.check_index(0, value)
            self.check_index(0, value, GOOD)
            self.check_index(1, (0, 0, ("a",), 0), value)
            self.check_index(2, (0, 5, ("a",), 0), (1, 9, (), 9), value, GOOD, None)
            self.assertIsNone(conflict(GOOD))
            self.assertEqual(outcomes(program_with(GOOD), 3), (GOOD[1:],))

    def test_no_observations(self):
        for value in (*NO_TUPLES, (), (3,), (3, 2), GOOD[:3], GOOD + (1,), GOOD + (None,), list(GOOD), GOOD[1:],
                      (GOOD,), (GOOD, GOOD), GOOD[::-1], (3, 2, 1, ("a", "b")), (3, ("a",), 2, 1), [GOOD],
                      (3, (2, ("a", "b"), 1)), "3 2 a 1"):
            self.check_wrong(value)

    def test_wrong_numbers(self):
        for value in NO_LENGTHS:
            for at in (0, 1, 3):
                self.check_wrong(GOOD[:at] + (value,) + GOOD[at + 1:])

    def test_wrong_items(self):
        for value in NO_TUPLES:
            self.check_wrong((3, 2, value, 1))
        for value in NO_NAMES:
            self.check_wrong((3, 2, (value,), 1))
            self.check_wrong((3, 2, ("a", value, "b"), 1))

    def test_lengths_that_do_not_grow(self):
        self.check_index(1, GOOD, GOOD)
        self.check_index(1, GOOD, (2, 2, ("a",), 0), GOOD)
        self.check_index(2, GOOD, (4, 9, ("a",), 0), (4, 2, ("a",), 0))
        self.check_index(2, GOOD, (10 ** 30, 9, ("a",), 0), (10 ** 30 - 1, 2, ("a",), 0), None)
        self.check_index(1, GOOD, (0, 0, (), 0))
        self.check_index(1, GOOD, (3, 2, ("a", "b"), 1), [])
        self.check_index(1, GOOD, (4, 2, ["a"], 0), (4, 2, ("a",), 0))

    def test_nothing_changes(self):
        observations = ((0, 0, ("a", "b"), 0), GOOD, (5, 3, ("b",), 1))
        before = repr(observations)
        first = program_with(*observations)
        self.check_index(1, GOOD, None)
        self.assertEqual(program_with(*observations), first)
        self.assertIsNone(conflict(*observations))
        self.assertEqual(repr(observations), before)


if __name__ == "__main__":
    unittest.main()
