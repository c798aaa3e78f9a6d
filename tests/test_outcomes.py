import random
import unittest

from undotables.errors import InvalidLength, NotAProgram
from undotables.histories import History
from undotables.outcomes import kept_dos, outcome, outcomes, word
from undotables.programs import Program
from models import BIG, drawn_program, left_by_doubling, left_one_by_one, reach, small_programs
from values import ANY_VALUES, LENGTHS, NO_LENGTHS, NO_TUPLES

WORDS = ("keep", "undone", "old", "item")
BOTH = Program.read("do a; undo 5; redo 4; do b")


def next_outcome(told, given, following):
    """True if the outcome `following` results from `given` in the way that this word tells."""
    kept, items, undone = given
    if told == "keep":
        return following == (kept + 1, items, undone)
    if told == "undone":
        return following == (kept + 1, items, undone + 1)
    if told == "old":
        return following == given
    without = [items[:at] + items[at + 1:] for at in range(len(items) - 1)]
    return told == "item" and following in [(kept + 1, fewer, undone) for fewer in without]


class OutcomesCase(unittest.TestCase):
    def check_left(self, program, length, left):
        expected, kept = left(program, length)
        self.assertEqual(outcome(program, length), expected, (str(program), length))
        self.assertEqual(kept_dos(program, length), kept, (str(program), length))

    def check_word(self, program, length):
        told = word(program, length)
        given, following = outcomes(program, length, length + 1)
        self.assertTrue(next_outcome(told, given, following), (str(program), length, told, given, following))
        self.assertTrue(set(kept_dos(program, length + 1)) <= set(kept_dos(program, length)))
        return told


class OrdinaryTest(OutcomesCase):
    def test_without_commands(self):
        for length in LENGTHS:
            self.assertEqual(outcome(Program(), length), (length, (), 0))
            self.assertEqual(word(Program(), length), "keep")
            self.assertEqual(kept_dos(Program(), length), ())

    def test_without_a_do(self):
        program = Program.read("undo 3; redo 1")
        self.assertEqual(outcomes(program, 0, 1, 2, 3, 4, BIG),
                         ((0, (), 0), (1, (), 0), (2, (), 1), (3, (), 2), (4, (), 2), (BIG, (), 2)))
        self.assertEqual([word(program, length) for length in range(5)], ["keep", "undone", "undone", "keep", "keep"])
        self.assertEqual(kept_dos(program, 7), ())

    def test_repeats_alone(self):
        program = Program(("repeat", BIG, (("undo", 2), ("redo", 1))))
        self.assertEqual(outcomes(program, 0, 1, 2, BIG, BIG + 1, 2 * BIG),
                         ((0, (), 0), (1, (), 0), (2, (), 1), (BIG, (), BIG - 1), (BIG + 1, (), BIG),
                          (2 * BIG, (), BIG)))
        self.assertEqual([word(program, length) for length in (0, 1, BIG, BIG + 1)],
                         ["keep", "undone", "undone", "keep"])

    def test_the_four_words(self):
        self.assertEqual([word(BOTH, length) for length in (0, 1, 2, 3, 4, BIG)],
                         ["keep", "keep", "keep", "item", "keep", "keep"])
        self.assertEqual(word(Program.read("undo 2; do x"), 1), "old")
        self.assertEqual(word(Program.read("undo 2; do x"), 2), "keep")
        self.assertEqual(word(Program.read("do x; undo all"), BIG), "undone")
        self.assertEqual(word(Program.read("undo all; do x"), BIG), "old")

    def test_outcomes(self):
        self.assertEqual(outcomes(BOTH), ())
        self.assertEqual(outcomes(BOTH, 4, 0, 4, 3, 4),
                         ((4, ("b",), 0), (0, ("a", "b"), 0), (4, ("b",), 0), (3, ("a", "b"), 0), (4, ("b",), 0)))
        for program in (Program(), BOTH, Program.read("3 times (undo 1)")):
            lengths = (*LENGTHS[::-1], *LENGTHS)
            self.assertEqual(outcomes(program, *lengths), tuple(outcome(program, length) for length in lengths))

    def test_kept_dos_of_equal_names(self):
        program = Program.read("do a; do a; undo 3; redo 2; do a; do b")
        self.assertEqual([kept_dos(program, length) for length in (0, 1, 2)], [(0, 1, 2, 3), (0, 2, 3), (0, 2, 3)])
        program = Program.read("do a; undo 1; do a; do a; undo 1; do a")
        self.assertEqual([kept_dos(program, length) for length in (0, BIG)], [(1, 3), (1, 3)])

    def test_kinds(self):
        for length in (0, 3, BIG):
            result = outcome(BOTH, length)
            self.assertEqual([type(part) for part in result], [int, tuple, int])
            self.assertIs(type(result), tuple)
            self.assertIs(type(kept_dos(BOTH, length)), tuple)
            self.assertIs(type(outcomes(BOTH, length)), tuple)

    def test_by_name(self):
        self.assertEqual(outcome(length=4, program=BOTH), (4, ("b",), 0))
        self.assertEqual(outcomes(program=BOTH), ())
        self.assertEqual(word(program=BOTH, length=3), "item")
        self.assertEqual(kept_dos(length=4, program=BOTH), (1,))
        self.assertRaises(TypeError, outcomes, program=BOTH, lengths=(1,))


class ComparedTest(OutcomesCase):
    def test_small_programs(self):
        for program in small_programs(3):
            for length in range(reach(program) + 3):
                self.check_left(program, length, left_one_by_one)
                self.check_word(program, length)

    def test_drawn_programs(self):
        draw, told = random.Random(1), set()
        for turn in range(150):
            program = drawn_program(draw, draw.randint(0, 12), 9, 4)
            for length in range(40):
                self.check_left(program, length, left_one_by_one)
                told.add(self.check_word(program, length))
        self.assertEqual(told, set(WORDS))

    def test_long_programs(self):
        draw = random.Random(2)
        for turn in range(4):
            program = drawn_program(draw, 60, 9, 3)
            for length in (0, 1, 7, 25, 60, 400):
                self.check_left(program, length, left_one_by_one)

    def test_great_lengths_amounts_and_turns(self):
        draw = random.Random(3)
        for most, turns in ((9, 4), (10 ** 30, 4), (9, 10 ** 30), (BIG, BIG), (10 ** 129, 10 ** 129)):
            for turn in range(60):
                program = drawn_program(draw, draw.choice((1, 2, 3, 5, 8, 13, 60)), most, turns)
                near = [draw.randint(0, 3 * most * turns) for draws in range(5)]
                for length in (*LENGTHS, *near, most, most + 1, most * turns):
                    self.check_left(program, length, left_by_doubling)
                    self.check_word(program, length)

    def test_both_other_ways_agree(self):
        draw = random.Random(4)
        for turn in range(200):
            program = drawn_program(draw, draw.randint(0, 9), 9, 5)
            for length in (0, 1, 2, 5, 9, 20):
                self.assertEqual(left_by_doubling(program, length), left_one_by_one(program, length))


class ReachTest(OutcomesCase):
    def test_one_word_from_the_reach_on(self):
        draw = random.Random(5)
        for most, turns in ((4, 3), (9, BIG), (BIG, BIG)):
            for turn in range(100):
                program = drawn_program(draw, draw.randint(0, 9), most, turns)
                beyond = reach(program)
                told = {word(program, length) for length in (beyond, beyond + 1, beyond + 7, 2 * beyond, 10 ** 150)}
                self.assertEqual(len(told), 1, str(program))
                self.assertIn(told.pop(), ("keep", "undone", "old") if "all" in str(program) else ("keep",))


class ErrorsTest(OutcomesCase):
    def test_no_program(self):
        for value in ANY_VALUES + ((("do", "a"),), History(), Program, "do a", [Program()]):
            for call in (outcome, outcomes, word, kept_dos):
                for length in (3, -1, None, "1"):
                    with self.subTest(value=value), self.assertRaises(NotAProgram) as caught:
                        call(value, length)
                    self.assertIs(caught.exception.value, value)
            for call in (outcome, word, kept_dos):
                with self.subTest(value=value), self.assertRaises(NotAProgram) as caught:
                    call(length=[], program=value)
                self.assertIs(caught.exception.value, value)
            with self.subTest(value=value), self.assertRaises(NotAProgram) as caught:
                outcomes(value)
            self.assertIs(caught.exception.value, value)

    def check_length(self, value, call, *arguments, **named):
        with self.subTest(value=value), self.assertRaises(InvalidLength) as caught:
            call(*arguments, **named)
        self.assertIs(caught.exception.length, value)

    def test_no_length(self):
        before = outcomes(BOTH, 0, 3, 4), word(BOTH, 3), kept_dos(BOTH, 4)
        for value in NO_LENGTHS + NO_TUPLES:
            if type(value) is int and value >= 0:
                continue
            for call in (outcome, outcomes, word, kept_dos):
                self.check_length(value, call, BOTH, value)
                self.check_length(value, call, Program(), value)
            for call in (outcome, word, kept_dos):
                self.check_length(value, call, length=value, program=BOTH)
            self.check_length(value, outcomes, BOTH, 0, 5, value, 1, -7)
        self.assertEqual((outcomes(BOTH, 0, 3, 4), word(BOTH, 3), kept_dos(BOTH, 4)), before)

    def test_nothing_changes(self):
        steps = (("undo", 2), ("redo", 1))
        program = Program(("do", "a"), ("repeat", BIG, steps), ("do", "b"))
        commands = program.commands
        for length in LENGTHS:
            first = outcome(program, length), word(program, length), kept_dos(program, length)
            self.assertEqual((outcome(program, length), word(program, length), kept_dos(program, length)), first)
        self.assertIs(program.commands, commands)
        self.assertEqual(commands, (("do", "a"), ("repeat", BIG, (("undo", 2), ("redo", 1))), ("do", "b")))


if __name__ == "__main__":
    unittest.main()
