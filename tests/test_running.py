import inspect
import itertools
import unittest

from undotables.errors import NotAHistory
from undotables.histories import History
from undotables.programs import Program
from models import one_by_one
from values import ANY_VALUES, letters

BIG = 10 ** 59
STEPS = tuple((word, amount) for word in ("undo", "redo") for amount in (1, 2, 3, None))


class RunningCase(unittest.TestCase):
    def check(self, text, history, expected):
        program = Program.read(text)
        self.assertEqual(str(program(history)), expected)
        self.assertEqual(str(program), text)

    def check_one_by_one(self, program, history):
        past, future = one_by_one(program.commands, history.past, history.future)
        result = program(history)
        self.assertIs(type(result), History)
        self.assertEqual([type(result.past), type(result.future)], [tuple, tuple])
        self.assertEqual((result.past, result.future), (tuple(past), tuple(future)))


class CallTest(RunningCase):
    def test_single_commands(self):
        history = History(("a", "b"), ("c", "d"))
        self.check("nothing", history, "a b | c d")
        self.check("do x", history, "a b x |")
        self.check("undo 1", history, "a | b c d")
        self.check("undo 3", history, "| a b c d")
        self.check("undo all", history, "| a b c d")
        self.check("redo 1", history, "a b c | d")
        self.check("redo 9", history, "a b c d |")
        self.check("redo all", history, "a b c d |")
        self.check("1 times (undo 1)", history, "a | b c d")
        self.check("2 times (undo 2, redo 1)", history, "a | b c d")
        self.assertEqual((history.past, history.future), (("a", "b"), ("c", "d")))

    def test_by_name(self):
        program = Program(("undo", 1))
        self.assertEqual(program(history=History.of("a")), History((), ("a",)))
        self.assertEqual(list(program.each(history=History.of("a"))), [History((), ("a",))])

    def test_programs(self):
        self.check("do x; 2 times (undo 2, redo 1); do y; undo all", History.of("a", "b", "c"), "| a b y")
        self.check("do a; undo 5; redo 4; do b", History.of("x", "y", "z"), "x y z a b |")
        self.check("do a; undo 5; redo 4; do b", History.of("w", "x", "y", "z"), "w x y z b |")
        self.check("do a; do a; undo 3; redo 2; do b", History(), "a a b |")

    def test_all_short_repeats_are_as_if_made_one_by_one(self):
        for many in (1, 2, 3):
            for steps in itertools.product(STEPS, repeat=many):
                for times in (1, 2, 3, 7):
                    for size in (0, 1, 2, 5):
                        self.check_at_all_places(Program(("repeat", times, steps)), letters(size))

    def check_at_all_places(self, program, names):
        for place in range(len(names) + 1):
            self.check_one_by_one(program, History(names[:place], names[place:]))

    def test_repeats_with_greater_amounts(self):
        bodies = ((("undo", 7), ("redo", 5)), (("redo", 5), ("undo", 7)), (("redo", 9), ("undo", 4), ("redo", 1)),
                  (("undo", 3), ("redo", 3)), (("undo", 4), ("redo", 11), ("undo", 6)), (("undo", BIG), ("redo", 3)),
                  (("redo", BIG), ("undo", 4)), (("undo", 2), ("redo", 9), ("undo", 8), ("redo", 2)))
        for steps in bodies:
            for times in (1, 2, 3, 4, 5, 6, 20):
                self.check_at_all_places(Program(("repeat", times, steps)), letters(23))

    def test_repeats_within_programs(self):
        text = "undo 3; 3 times (redo 1, undo 2); do x; do y; 4 times (undo 3, redo 2); do z; 2 times (undo 1); redo 1"
        for size in range(12):
            self.check_at_all_places(Program.read(text), letters(size))

    def test_great_repeats(self):
        names = letters(400)
        self.check_place(f"{BIG} times (undo 2, redo 1)", names, 400, 1)
        self.check_place(f"{BIG} times (redo 1, undo 2)", names, 400, 0)
        self.check_place(f"{BIG} times (redo 2, undo 1)", names, 0, 399)
        self.check_place(f"{BIG} times (redo 2, undo 2)", names, 17, 17)
        self.check_place(f"{BIG} times (undo 20, redo 20)", names, 17, 20)
        self.check_place(f"{BIG} times (undo 20, redo 20)", names, 21, 21)
        self.check_place(f"{BIG} times (undo {BIG}, redo {BIG - 1})", names, 400, 400)
        self.check_place(f"{BIG} times (redo {BIG}, undo 3)", names, 5, 397)
        self.check_place(f"{BIG} times (redo all, undo 3, redo 1)", names, 5, 398)
        self.check_place(f"{BIG} times (undo all, redo 30)", names, 5, 30)
        self.check_place(f"{BIG} times (undo 1)", names, 400, 0)
        self.check_place("399 times (undo 2, redo 1)", names, 400, 1)
        self.check_place("398 times (undo 3, undo 1, redo 3)", names, 400, 3)
        self.check_place("300 times (redo 3, undo 2)", names, 7, 307)

    def check_place(self, text, names, before, after):
        history = History(names[:before], names[before:])
        result = Program.read(text)(history)
        self.assertEqual((result.past, result.future), (names[:after], names[after:]))
        self.assertEqual((history.past, history.future), (names[:before], names[before:]))

    def test_long_programs_on_long_histories(self):
        round_text = f"do x; {BIG} times (undo 3, redo 2); {BIG} times (redo 2, undo 1); undo {BIG}; redo all"
        program = Program.read("; ".join([round_text] * 12))
        result = program(History(letters(200), letters(200)))
        self.assertEqual((result.past, result.future), (letters(200) + ("x",) * 12, ()))

    def test_a_sum_runs_one_after_the_other(self):
        one, two = Program.read("do x; undo 3"), Program.read("2 times (redo 1); do y; undo 1")
        for size in range(6):
            history = History(letters(size), letters(2))
            self.assertEqual((one + two)(history), two(one(history)))


class EachTest(RunningCase):
    def test_each_is_a_generator(self):
        self.assertTrue(inspect.isgenerator(Program().each(History())))

    def test_each(self):
        program = Program.read(f"do x; 2 times (undo 2, redo 1); redo {BIG}; do y; undo all; {BIG} times (redo 1)")
        history = History(("a", "b", "c"), ("d",))
        self.assertEqual([str(after) for after in program.each(history)],
                         ["a b c x |", "a b | c x", "a b c x |", "a b c x y |", "| a b c x y", "a b c x y |"])
        self.assertEqual((history.past, history.future), (("a", "b", "c"), ("d",)))

    def test_each_without_commands(self):
        self.assertEqual(list(Program().each(History.of("a"))), [])

    def test_each_agrees_with_the_programs_of_the_first_commands(self):
        program = Program.read("undo 2; do x; redo all; 3 times (undo 2, redo 1); do y; undo 1; 9 times (redo 3)")
        for size in (0, 1, 4, 400):
            history = History(letters(size), letters(3))
            after = list(program.each(history))
            self.assertEqual(len(after), len(program))
            for many in range(len(program)):
                self.assertEqual(after[many], Program(*program.commands[:many + 1])(history))
            self.assertEqual(after[-1], program(history))

    def test_two_generators_do_not_disturb_each_other(self):
        program = Program.read("do x; undo 2")
        one, two = program.each(History.of("a")), program.each(History.of("b"))
        self.assertEqual([str(next(one)), str(next(two)), str(next(one)), str(next(two))],
                         ["a x |", "b x |", "| a x", "| b x"])


class NotAHistoryTest(RunningCase):
    def test_call(self):
        for program in (Program(), Program(("do", "a")), Program.read("2 times (undo 1)")):
            for value in ANY_VALUES + (program, History):
                with self.subTest(program=str(program), value=value):
                    with self.assertRaises(NotAHistory) as caught:
                        program(value)
                    self.assertIs(caught.exception.value, value)

    def test_each(self):
        for program in (Program(), Program(("do", "a")), Program.read("2 times (undo 1)")):
            for value in ANY_VALUES + (program, History):
                with self.subTest(program=str(program), value=value):
                    with self.assertRaises(NotAHistory) as caught:
                        next(program.each(value))
                    self.assertIs(caught.exception.value, value)


class NothingChangesTest(RunningCase):
    def test_wrong_values_stay(self):
        steps = [("undo", 1)]
        names = ["a"]
        command = ["repeat", 2, steps]
        self.assertFalse(Program.is_command(("repeat", 2, steps)))
        self.assertFalse(Program.is_command(command))
        self.assertRaises(ValueError, History, names)
        self.assertRaises(NotAHistory, Program(("do", "a")), names)
        self.assertEqual((steps, names, command), ([("undo", 1)], ["a"], ["repeat", 2, [("undo", 1)]]))


if __name__ == "__main__":
    unittest.main()
