import importlib
import pathlib
import unittest

import undotables
from undotables.errors import InvalidProgram, NotAProgram
from undotables.histories import History
from undotables.programs import Program
from values import (AMOUNTS, ANY_VALUES, NAMES, NO_AMOUNTS, NO_INTEGERS_FROM_1, NO_NAMES, NO_TUPLES, EqualToAll,
                    letters)

UNDO = ("undo", 1)
REDO_ALL = ("redo", None)
COMMANDS = (
    *[("do", name) for name in NAMES],
    *[(word, amount) for word in ("undo", "redo") for amount in AMOUNTS],
    ("repeat", 1, (UNDO,)),
    ("repeat", 2, (UNDO, REDO_ALL)),
    ("repeat", 10 ** 59, (REDO_ALL, UNDO, ("undo", 10 ** 59))),
    ("repeat", 10 ** 130, (UNDO,) * 60),
)
WRONG_STEPS = (("do", "a"), ("repeat", 1, (UNDO,)), ["undo", 1], ("undo", 0), ("redo", True), ("undo", "1"), ("undo",),
               ("redo", 1, 1), "undo 1", None, 1, (), (UNDO,), ("UNDO", 1), ("", 1))
NO_COMMANDS = (
    *NO_TUPLES,
    *[("do", name) for name in NO_NAMES],
    *[(word, amount) for word in ("undo", "redo") for amount in NO_AMOUNTS],
    *[("repeat", times, (UNDO,)) for times in (None, *NO_INTEGERS_FROM_1)],
    *[("repeat", 2, steps) for steps in NO_TUPLES],
    *[("repeat", 2, (wrong,)) for wrong in WRONG_STEPS],
    *[("repeat", 2, (UNDO, REDO_ALL, wrong, UNDO)) for wrong in WRONG_STEPS],
    *[(word, 1) for word in NO_NAMES],
    *[(word, "a") for word in NO_NAMES],
    *[(word, 2, (UNDO,)) for word in NO_NAMES],
    (), ("do",), ("undo",), ("redo",), ("repeat",), ("repeat", 2), ("repeat", 2, ()), ("repeat", 2, (UNDO,), 1),
    ("repeat", (UNDO,), 2), ("repeat", 2, UNDO), ("repeat", 2, [UNDO]), ("repeat", 2, "undo 1"),
    ("do", "a", "b"), ("do", "a", 1), ("undo", 1, 1), ("redo", 1, None), ("undo", 1, (UNDO,)), ("do", None), ("do", 1),
    ("Do", "a"), ("do ", "a"), ("done", "a"), ("UNDO", 1), ("all", 1), ("times", 2, (UNDO,)), ("nothing",),
    ("a", "do"), (1, "undo"), (None, None), (("do", "a"),), (("undo", 1), ("redo", 1)), ["do", "a"], ["undo", 1],
    ["repeat", 2, (UNDO,)], {"do": "a"}, {"undo", 1}, "do a", "undo 1", "do", "nothing",
    History(), Program(), Program(UNDO),
)


CONTENTS = ((), ("x",), ("x", 1), UNDO, (UNDO,), ("do", "a"), (("do", "a"), UNDO))


def objects_of_the_package():
    """Objects of all classes of the package, with each of the contents that they can be created of."""
    for path in sorted(pathlib.Path(undotables.__file__).parent.glob("*.py")):
        module = importlib.import_module("undotables." + path.stem) if path.stem != "__init__" else undotables
        for kind in [value for value in vars(module).values() if isinstance(value, type)]:
            for content in CONTENTS:
                for arguments in ((content,), content, (Program(UNDO),), (Program(UNDO), Program(UNDO))):
                    try:
                        yield kind(*arguments)
                    except (TypeError, ValueError):
                        pass


class CommandsTest(unittest.TestCase):
    def test_commands(self):
        for value in COMMANDS:
            with self.subTest(value=value):
                self.assertIs(Program.is_command(value), True)
                self.assertIs(Program(UNDO).is_command(value), True)
                self.assertIs(Program.is_command(value=value), True)
                self.assertEqual(Program(value).commands, (value,))

    def test_no_commands(self):
        for value in NO_COMMANDS:
            with self.subTest(value=value):
                self.assertIs(Program.is_command(value), False)
                self.assertIs(Program(UNDO).is_command(value), False)
                self.assertIs(Program.is_command(value=value), False)

    def check_index(self, index, *commands):
        with self.assertRaises(InvalidProgram) as caught:
            Program(*commands)
        self.assertEqual((type(caught.exception.index), caught.exception.index), (int, index))

    def test_the_first_wrong_command_is_told(self):
        for value in NO_COMMANDS:
            with self.subTest(value=value):
                self.check_index(0, value)
                self.check_index(2, ("do", "a"), UNDO, value, UNDO, value)
        self.check_index(0, (UNDO, REDO_ALL))
        self.check_index(59, *COMMANDS[:1] * 59, ["undo", 1])

    def test_an_object_of_any_class_is_no_command(self):
        kinds = set()
        for value in objects_of_the_package():
            kinds.add(type(value).__name__)
            with self.subTest(value=value):
                self.assertIs(Program.is_command(value), False)
                self.check_index(0, value)
                self.check_index(0, value, UNDO)
                self.check_index(1, UNDO, value)
                self.check_index(2, UNDO, UNDO, (UNDO, value), value)
        self.assertTrue(kinds > {"History", "Program", "Effect", "InvalidProgram"})

    def test_arguments_are_passed_by_position_only(self):
        self.assertRaises(TypeError, Program, commands=(UNDO,))

    def test_only_commands_come_into_a_program(self):
        for value in (*CONTENTS, *COMMANDS, History(), None, "do a"):
            with self.assertRaises(NotAProgram) as caught:
                Program(UNDO, joined=(Program(UNDO), value))
            self.assertIs(caught.exception.value, value)


class QuestionsTest(unittest.TestCase):
    def test_commands_of_a_program(self):
        self.assertEqual(Program().commands, ())
        self.assertEqual(Program(*COMMANDS).commands, COMMANDS)
        self.assertEqual(vars(Program(UNDO, REDO_ALL)), {"commands": (UNDO, REDO_ALL)})

    def test_names(self):
        self.assertEqual(Program().names, ())
        self.assertEqual(Program(UNDO, ("repeat", 2, (UNDO,))).names, ())
        program = Program(("do", "b"), UNDO, ("do", "a"), ("repeat", 3, (UNDO,)), ("do", "b"), REDO_ALL)
        self.assertEqual(program.names, ("b", "a", "b"))
        self.assertEqual(Program(*COMMANDS).names, NAMES)

    def test_length_and_truth(self):
        self.assertEqual(len(Program()), 0)
        self.assertIs(bool(Program()), False)
        self.assertEqual(len(Program(("repeat", 10 ** 59, (UNDO, UNDO)))), 1)
        self.assertIs(bool(Program(UNDO)), True)
        self.assertEqual(len(Program(*COMMANDS)), len(COMMANDS))
        self.assertEqual(len(Program(*[UNDO] * 70)), 70)

    def test_in(self):
        program = Program(("do", "a"), UNDO, ("do", "undo"))
        self.assertIs("a" in program, True)
        self.assertIs("undo" in program, True)
        self.assertIs("do" in program, False)
        self.assertIs("redo" in program, False)
        self.assertIs("a" not in program, False)
        self.assertIs("a" in Program(), False)

    def test_in_for_any_value(self):
        program = Program(("do", "a"), UNDO, ("repeat", 2, (UNDO,)))
        for value in ANY_VALUES + (UNDO, ("do", "a"), program, History.of("a"), EqualToAll()):
            if value != "a" or isinstance(value, EqualToAll):
                with self.subTest(value=value):
                    self.assertIs(value in program, False)

    def test_equality(self):
        program = Program(("do", "a"), ("repeat", 2, (UNDO,)))
        self.assertTrue(program == Program(("do", "a"), ("repeat", 2, (("undo", 1),))))
        self.assertFalse(program != Program(("do", "a"), ("repeat", 2, (("undo", 1),))))
        self.assertTrue(Program() == Program())
        for other in (Program(), Program(("do", "a")), Program(("do", "a"), UNDO, UNDO),
                      Program(("do", "b"), ("repeat", 2, (UNDO,))), Program(("do", "a"), ("repeat", 3, (UNDO,))),
                      Program(("repeat", 2, (UNDO,)), ("do", "a")), Program(*program.commands, UNDO)):
            self.assertFalse(program == other)
            self.assertTrue(program != other)

    def test_never_equal_to_other_values(self):
        for program in (Program(), Program(UNDO)):
            for value in (*ANY_VALUES, (UNDO,), UNDO, str(program), repr(program), History(), Program):
                if not isinstance(value, EqualToAll):
                    with self.subTest(value=value):
                        self.assertIs(program == value, False)
                        self.assertIs(program != value, True)

    def test_repr(self):
        self.assertEqual(repr(Program()), "Program(0)")
        self.assertEqual(repr(Program(UNDO, ("repeat", 2, (UNDO, UNDO)))), "Program(2)")
        self.assertEqual(repr(Program(*[UNDO] * 60)), "Program(60)")

    def test_sum(self):
        one, two = Program(("do", "a"), UNDO), Program(REDO_ALL, ("repeat", 2, (UNDO,)), ("do", "b"))
        both = one + two
        self.assertIs(type(both), Program)
        self.assertEqual(both.commands, one.commands + two.commands)
        self.assertEqual((two + one).commands, two.commands + one.commands)
        self.assertEqual(one.commands, (("do", "a"), UNDO))
        self.assertEqual(two.commands, (REDO_ALL, ("repeat", 2, (UNDO,)), ("do", "b")))
        self.assertEqual((one + Program()).commands, one.commands)
        self.assertEqual((Program() + one).commands, one.commands)
        self.assertEqual((Program() + Program()).commands, ())

    def test_sum_with_another_value(self):
        for value in (None, 1, "do a", (UNDO,), History()):
            with self.assertRaises(NotAProgram) as caught:
                Program(UNDO) + value
            self.assertIs(caught.exception.value, value)

    def test_sum_of_one_command(self):
        for one, two in ((Program(UNDO), Program()), (Program(), Program(UNDO))):
            self.assertEqual(one + two, Program(UNDO))
            self.assertEqual(vars(one + two), {"commands": (UNDO,)})

    def test_long_sum(self):
        one = Program(*[("do", name) for name in letters(60)])
        self.assertEqual((one + one).names, letters(60) * 2)


if __name__ == "__main__":
    unittest.main()
