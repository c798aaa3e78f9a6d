import itertools
import random
import unittest

from undotables.comparing import alike, difference, same
from undotables.effects import Effect, effect_of
from undotables.errors import NotAProgram
from undotables.histories import History
from undotables.programs import Program
from models import BIG, drawn_program, left_by_doubling, left_one_by_one, made_of, reach, small_programs
from values import ANY_VALUES

TURNS = 10 ** 30
NO_PROGRAMS = ANY_VALUES + (History(), Effect(), Program, "do a", "nothing", (("do", "a"),), [Program()], (Program(),))


def first_difference(one, two):
    """The least length with different outcomes up to both reaches and one more, or None."""
    for length in range(max(reach(one), reach(two)) + 2):
        if left_one_by_one(one, length)[0] != left_one_by_one(two, length)[0]:
            return length
    return None


def ends_of(program):
    for length, times, what in effect_of(program).changes:
        for end in (length, length + (times or 0)):
            yield from [near for near in (end - 1, end, end + 1, end + 2) if near >= 0]


def pairs(random, many, most, turns):
    """A drawn program, and one that is made of it."""
    one = drawn_program(random, random.randint(0, many), most, turns)
    two = one
    for change in range(random.choice((1, 1, 1, 2, 3))):
        two = made_of(random, two, drawn_program(random, random.randint(0, many), most, turns))
    return one, two


class ComparingCase(unittest.TestCase):
    def check(self, one, two, expected):
        for program, other in ((one, two), (two, one)):
            with self.subTest(program=str(program), other=str(other)):
                told = difference(program, other)
                self.assertEqual((type(told), told), (type(expected), expected))
                self.assertIs(same(program, other), expected is None)
                self.assertIs(alike(program, other), expected is None)

    def check_texts(self, one, two, expected):
        self.check(Program.read(one), Program.read(two), expected)


class OrdinaryTest(ComparingCase):
    def test_equal_outcomes(self):
        self.check_texts("nothing", "nothing", None)
        self.check_texts("nothing", "redo all", None)
        self.check_texts("undo 1; do x", "do y; undo 2; do x", None)
        self.check_texts("undo 3", "undo 1; undo 2", None)
        self.check_texts("undo 3", "3 times (undo 1)", None)
        self.check_texts("undo 3; redo 3", "nothing", None)
        self.check_texts("do a; undo 1; do a", "do a", None)
        self.check_texts("do a; do a; undo 3; redo 2; do b", "do a; undo 2; redo 1; do a; do b", None)

    def test_at_the_length_0(self):
        self.check_texts("nothing", "do a", 0)
        self.check_texts("do b", "do a", 0)
        self.check_texts("do a; do a", "do a", 0)
        self.check_texts("do a; undo 1", "do a", 0)
        self.check_texts("do a; do b", "do b; do a", 0)
        self.check_texts("undo all; do a", "undo all; do b", 0)

    def test_at_greater_lengths(self):
        self.check_texts("undo 1; do x", "undo 2; do x", 2)
        self.check_texts("undo 1", "nothing", 1)
        self.check_texts("undo 1", "undo 2", 2)
        self.check_texts("undo 7", "undo all", 8)
        self.check_texts("undo 7; do a", "undo all; do a", 8)
        self.check_texts("undo all; redo 3", "nothing", 4)
        self.check_texts("undo 4", "undo 4; redo 1", 1)
        self.check_texts("do a; undo 5; redo 4; do b", "do a; do b", 4)
        self.check_texts("do a; undo 5; redo 4; do b", "do a; undo 6; redo 5; do b", 4)
        self.check_texts("do a; undo 5; redo 4; do b", "do a; undo 5; redo 3; do b", 3)

    def test_words_of_the_same_length(self):
        one = "do a; do b; do c; undo 4; redo 3; do x"
        self.check_texts(one, "do a; do b; undo 3; redo 2; do c; do x", 1)
        self.check_texts(one, "do a; do b; do c; do x; undo 5; redo 4", 1)
        self.check_texts("undo 3", "undo 3; redo 1; undo 1", None)
        self.check_texts("undo 3; do a", "do a; undo 4; redo 1", 1)

    def test_great_amounts(self):
        self.check_texts(f"undo {BIG}", f"undo {BIG + 1}", BIG + 1)
        self.check_texts(f"undo {BIG}; do x", "undo all; do x", BIG + 1)
        self.check_texts(f"{TURNS} times (undo 2, redo 1)", f"{TURNS} times (undo 1)", 1)
        self.check_texts(f"{TURNS} times (undo 2, redo 1)", f"undo {TURNS + 1}; redo 1", None)
        self.check_texts(f"{TURNS} times (undo 2, redo 1)", f"undo {TURNS + 2}; redo 1", TURNS + 2)
        self.check_texts(f"{BIG} times (undo {BIG})", f"undo {BIG * BIG}", None)
        self.check_texts(f"{BIG} times (undo {BIG})", f"undo {BIG * BIG - 1}", BIG * BIG)

    def test_by_name(self):
        one, two = Program.read("undo 1"), Program.read("undo 2")
        self.assertIs(same(program=one, other=two), False)
        self.assertEqual(difference(program=one, other=two), 2)
        self.assertEqual(difference(one, other=two), 2)
        self.assertRaises(TypeError, alike, programs=(one, two))


class ComparedTest(ComparingCase):
    def test_small_programs(self):
        draw = random.Random(31)
        small = list(small_programs(3))
        for turn in range(500):
            one = draw.choice(small)
            two = made_of(draw, one, draw.choice(small))
            self.check(one, two, first_difference(one, two))

    def test_drawn_programs(self):
        draw = random.Random(32)
        found = []
        for turn in range(300):
            one, two = pairs(draw, 8, 4, 3)
            expected = first_difference(one, two)
            self.check(one, two, expected)
            found.append(expected)
        self.assertTrue(min(found.count(None), found.count(0), len(set(found))) > 5, found)

    def test_great_programs(self):
        draw = random.Random(33)
        found = []
        for most, turns in ((5, TURNS), (BIG, 4), (BIG, BIG)):
            for turn in range(120):
                one, two = pairs(draw, draw.choice((3, 6, 20)), most, turns)
                least = difference(one, two)
                self.check(one, two, least)
                self.look_at(one, two, least)
                found.append(least)
        self.assertTrue(len([least for least in found if least is not None and least > 3]) > 20, found)

    def look_at(self, one, two, least):
        far = max(reach(one), reach(two))
        lengths = [0, far, far + 1, 2 * far + 7, *ends_of(one), *ends_of(two)]
        if least is not None:
            self.assertNotEqual(left_by_doubling(one, least)[0], left_by_doubling(two, least)[0])
            lengths = [length for length in (*lengths, least - 1, least // 2) if 0 <= length < least]
        for length in lengths:
            self.assertEqual(left_by_doubling(one, length)[0], left_by_doubling(two, length)[0])

    def test_more_behind_or_ahead(self):
        draw = random.Random(34)
        for turn in range(200):
            one, two = pairs(draw, 6, 4, 3)
            more = drawn_program(draw, draw.randint(0, 5), 4, 3)
            self.check(more + one, more + two, first_difference(more + one, more + two))
            self.check(one + more, two + more, first_difference(one + more, two + more))
            if same(one, two):
                self.assertIs(same(one + more, two + more), True)

    def test_equal_effects(self):
        draw = random.Random(35)
        for turn in range(200):
            one, two = pairs(draw, 12, BIG, BIG)
            self.assertIs(same(one, two), effect_of(one) == effect_of(two))


class AlikeTest(unittest.TestCase):
    def test_none_and_one(self):
        self.assertIs(alike(), True)
        self.assertIs(alike(Program()), True)
        self.assertIs(alike(Program.read("do a; undo 5; redo 4; do b")), True)

    def test_some_in_any_order(self):
        programs = [Program.read(text) for text in (
            "undo 1; do x", "do y; undo 2; do x", "undo 1; do x; undo 1; redo 1",
            "undo 2; do x", "undo 2; do x; redo 1")]
        for many in range(1, 5):
            for chosen in itertools.permutations(range(5), many):
                expected = max(chosen) < 3 or min(chosen) > 2
                self.assertIs(alike(*[programs[at] for at in chosen]), expected, chosen)

    def test_one_of_many_differs(self):
        program = Program.read("do a; undo 5; redo 4; do b")
        other = Program.read("do a; undo 5; redo 4; do b; undo 1")
        self.assertIs(alike(*[program] * 20), True)
        for at in range(20):
            self.assertIs(alike(*[program] * at, other, *[program] * (19 - at)), False)


class ErrorsTest(unittest.TestCase):
    def check_error(self, value, function, *arguments, **named):
        with self.assertRaises(NotAProgram) as caught:
            function(*arguments, **named)
        self.assertIs(caught.exception.value, value)

    def test_no_programs(self):
        program = Program.read("do a; undo 5")
        for value in NO_PROGRAMS:
            with self.subTest(value=value):
                for function in (same, difference):
                    self.check_error(value, function, value, program)
                    self.check_error(value, function, program, value)
                    self.check_error(value, function, value, object())
                    self.check_error(value, function, other=None, program=value)
                    self.check_error(value, function, other=value, program=program)
                    self.assertEqual(function(program, program), True if function == same else None)
                self.check_error(value, alike, value)
                self.check_error(value, alike, program, Program(), value, object())
                self.check_error(value, alike, value, program)
        self.assertEqual(program, Program.read("do a; undo 5"))


if __name__ == "__main__":
    unittest.main()
