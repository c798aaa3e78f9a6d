import random
import unittest

from undotables.bounds import bounds, trimmed
from undotables.building import program_for
from undotables.comparing import same
from undotables.effects import Effect, effect_of
from undotables.errors import NotAProgram
from undotables.histories import History
from undotables.outcomes import kept_dos, outcome
from undotables.programs import Program
from models import (BIG, bounds_one_by_one, drawn_effect, drawn_program, left_by_doubling, left_one_by_one, reach,
                    small_programs)
from values import ANY_VALUES, letters

NO_PROGRAMS = ANY_VALUES + (History(), Effect(), Program, "do a", "nothing", (("do", "a"),), [Program()], (Program(),))
ORDINARY = (
    ("nothing", ()),
    ("undo 3; redo all", ()),
    ("do a", (None,)),
    ("do a; undo 1", (None,)),
    ("do a; undo all", (None,)),
    ("do a; do b", (None, None)),
    ("do a; undo 1; do b", (0, None)),
    ("do a; undo 1; redo 1; do b", (None, None)),
    ("do a; undo all; do b", (0, None)),
    ("do a; undo 5; redo 4; do b", (4, None)),
    ("do a; undo 5; redo 4; do b; undo 1; do c", (4, 0, None)),
    ("do a; undo 5; redo 4; do b; undo 2; do c", (0, 0, None)),
    ("do a; do a; undo 3; redo 2; do b", (None, 1, None)),
    ("do a; do a; undo 5; redo 3; do b", (3, 2, None)),
    ("do a; do a; do a; undo 5; redo 2; do a", (2, 1, 0, None)),
    ("do a; undo all; redo 3; do b", (3, None)),
    ("do a; undo 5; redo 4; do b; do c; undo all; redo 4; do d", (4, 3, 2, None)),
    ("do a; do b; undo 9; redo 7; do c; undo 9; redo 4; do d", (4, 3, 2, None)),
    ("do a; 5 times (undo 2, redo 1); do b", (1, None)),
    ("do a; undo 4; 5 times (redo 2, undo 1); do b", (0, None)),
    (f"do a; undo {BIG}; redo {BIG - 1}; do b", (BIG - 1, None)),
    (f"do a; undo all; redo {BIG}; do b", (BIG, None)),
    (f"do a; undo {BIG * BIG}; {BIG} times (undo 1, redo 2); do b", (BIG + 1, None)),
)


def least(bound):
    """The bound as something to compare, None being greater than all others."""
    return (bound is None, bound or 0)


class BoundsTest(unittest.TestCase):
    def test_ordinary_programs(self):
        for text, expected in ORDINARY:
            with self.subTest(text=text):
                self.assertEqual(bounds(Program.read(text)), expected)
                self.assertEqual(bounds(program=Program.read(text)), expected)

    def test_small_programs(self):
        for program in small_programs(4):
            if program.names:
                self.assertEqual(bounds(program), bounds_one_by_one(program), str(program))

    def test_drawn_programs(self):
        draw = random.Random(41)
        for turn in range(150):
            program = drawn_program(draw, draw.randint(0, 10), 5, 3)
            self.assertEqual(bounds(program), bounds_one_by_one(program), str(program))

    def test_great_programs(self):
        draw = random.Random(42)
        found = []
        for most, turns in ((9, 10 ** 30), (BIG, 3), (BIG, BIG)):
            for turn in range(60):
                program = drawn_program(draw, draw.choice((3, 8, 20, 60)), most, turns)
                lossy = program_for(drawn_effect(draw, draw.randint(1, 8), 8, most))
                for each in (program, lossy, lossy + drawn_program(draw, 4, most, turns)):
                    self.check_ends(each, bounds(each))
                    found.extend(bounds(each))
        self.assertTrue(len([bound for bound in found if bound is not None and bound > 1]) > 500, len(found))

    def check_ends(self, program, found):
        self.assertEqual(len(found), len(program.names))
        far = reach(program)
        for at, bound in enumerate(found):
            with self.subTest(program=str(program), at=at):
                if bound is None:
                    self.assertIn(at, left_by_doubling(program, far + 1)[1])
                    self.assertIn(at, kept_dos(program, far + 1))
                    continue
                self.assertTrue(0 <= bound <= far)
                self.assertNotIn(at, left_by_doubling(program, bound)[1])
                self.assertNotIn(at, kept_dos(program, bound))
                self.assertTrue(bound == 0 or at in left_by_doubling(program, bound - 1)[1])

    def test_the_last_do_is_always_kept(self):
        draw = random.Random(43)
        for turn in range(200):
            program = drawn_program(draw, draw.randint(1, 20), draw.choice((5, BIG)), draw.choice((3, BIG)))
            self.assertEqual(bounds(program)[-1:], (None,) if program.names else ())

    def test_more_behind_never_makes_a_bound_greater(self):
        draw = random.Random(44)
        for turn in range(200):
            program = drawn_program(draw, draw.randint(1, 12), draw.choice((5, BIG)), draw.choice((3, BIG)))
            more = program + drawn_program(draw, draw.randint(1, 8), draw.choice((5, BIG)), 3)
            for before, after in zip(bounds(program), bounds(more)):
                self.assertTrue(least(after) <= least(before))

    def test_sixty_dos(self):
        program = Program(*[("do", name) for name in letters(60)], ("undo", None), ("redo", 50), ("do", "x"))
        self.assertEqual(bounds(program), tuple(range(50, 0, -1)) + (0,) * 10 + (None,))

    def test_names_make_no_difference(self):
        draw = random.Random(45)
        for turn in range(100):
            program = drawn_program(draw, 12, 5, 3)
            other = Program(*[("do", draw.choice("abc")) if command[0] == "do" else command
                              for command in program.commands])
            self.assertEqual(bounds(program), bounds(other))


class TrimmedTest(unittest.TestCase):
    def check_trimmed(self, program):
        less = trimmed(program)
        with self.subTest(program=str(program), less=str(less)):
            self.assertIs(type(less), Program)
            self.assertEqual(Program(*less.commands), less)
            self.assertEqual(effect_of(less), effect_of(program))
            self.assertIs(same(program, less), True)
            kept = tuple(name for name, bound in zip(program.names, bounds(program)) if bound != 0)
            self.assertEqual(less.names, kept)
            self.assertNotIn(0, bounds(less))
            self.assertEqual(None in bounds(less), len(kept) > 0)
        return less

    def test_ordinary_programs(self):
        for text, expected in ORDINARY:
            self.check_trimmed(Program.read(text))
        self.assertEqual(trimmed(program=Program()).names, ())

    def test_dos_that_are_lost_at_the_length_0(self):
        for text, names in (("do a; undo 1; do b", ("b",)), ("do a; undo 4; do b; do c", ("b", "c")),
                            ("do a; do b; undo 1; do c; undo 7; redo 6; do d", ("a", "c", "d")),
                            ("do a; do a; do a; undo 3; do a; do a", ("a", "a")),
                            ("do a; do b; do c; undo 2; do d; do e; undo all; redo 2; do f", ("a", "d", "f")),
                            ("do a; undo all; do b; undo all; do c; undo all", ("c",))):
            program = Program.read(text)
            self.assertEqual(self.check_trimmed(program).names, names)

    def test_drawn_programs(self):
        draw = random.Random(46)
        for most, turns in ((4, 3), (9, 10 ** 30), (BIG, BIG)):
            for turn in range(80):
                program = drawn_program(draw, draw.choice((1, 3, 6, 12, 60)), most, turns)
                less = self.check_trimmed(program)
                self.assertEqual(self.check_trimmed(less).names, less.names)
                for length in (0, 1, 2, reach(program), reach(program) + 1, BIG):
                    self.assertEqual(outcome(less, length), left_by_doubling(program, length)[0])

    def test_small_programs(self):
        for program in small_programs(3):
            less = trimmed(program)
            self.assertEqual(less.names, left_one_by_one(program, 0)[0][1])
            for length in range(reach(program) + 2):
                self.assertEqual(left_one_by_one(less, length)[0], left_one_by_one(program, length)[0], str(program))


class ErrorsTest(unittest.TestCase):
    def test_no_programs(self):
        program = Program.read("do a; undo 5; redo 4; do b")
        first = bounds(program), trimmed(program)
        for value in NO_PROGRAMS:
            for function in (bounds, trimmed):
                for arguments, named in (((value,), {}), ((), {"program": value})):
                    with self.subTest(value=value), self.assertRaises(NotAProgram) as caught:
                        function(*arguments, **named)
                    self.assertIs(caught.exception.value, value)
        self.assertEqual((bounds(program), trimmed(program)), first)
        self.assertEqual(str(program), "do a; undo 5; redo 4; do b")


if __name__ == "__main__":
    unittest.main()
