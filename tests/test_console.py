import random
import re
import unittest

from undotables.bounds import bounds
from undotables.console import Console
from undotables.editors import Editor
from undotables.errors import CannotRevert, InvalidLine, InvalidNames
from undotables.outcomes import outcome
from undotables.programs import Program
from models import BIG, drawn_program, drawn_step
from values import ANY_VALUES, NO_NAMES, letters

STEP = "(undo|redo) (all|[1-9][0-9]*)"
REPEAT = rf"[1-9][0-9]* times \({STEP}(, {STEP})*\)"
DO = "do [a-z]{1,8}"


def program_of(command):
    return f"(nothing|({command})(; ({command}))*)"


# All lines that are valid, written out as one pattern.
LINE = re.compile(f"{DO}|{STEP}|perform {program_of(f'{DO}|{STEP}')}|save|revert|show|count|changed|"
                  f"(outcome (0|[1-9][0-9]*)|bounds) {program_of(f'{DO}|{STEP}|{REPEAT}')}")
LINES = ("do a", "do abcdefgh", "do nothing", "do all", "undo 1", "undo all", f"undo {BIG}", "redo 2", "redo all",
         "perform nothing", "perform do a", "perform undo 1; do c; redo all; do b", "perform do perform", "save",
         "revert", "show", "count", "changed", "outcome 0 nothing", "outcome 7 do a; undo 5; do b", "bounds nothing",
         f"outcome {BIG} 3 times (undo 2, redo all); do x", "bounds do a; undo 5; do b",
         "bounds 2 times (undo 1); do x; do y")
WRONG = ("", " ", "do", "do ", "undo", "undo ", "redo", "perform", "perform ", "outcome", "outcome ", "outcome 7",
         "outcome 7 ", "outcome nothing", "outcome  nothing", "outcome -1 nothing", "outcome 07 nothing",
         "outcome 00 nothing", "outcome +7 nothing", "outcome all nothing", "outcome 7 do", "outcome 7; nothing",
         "outcome 7  nothing", "outcome 7 nothing ", "outcome 1_0 nothing", "bounds", "bounds ", "bounds 7 nothing",
         "bounds do a;", "bounds nothing; do a", "do A", "do a b", "do a; do b", "do a;", "do abcdefghi", "do 1",
         "do  a", " do a", "do a ", "do a\n", "Do a", "DO a", "undo 0", "undo 01", "undo -1", "undo 1.0", "undo None",
         "undo a", "undo 1; redo 1", "undo 1 1", "undo  1", "undo ALL", "perform 2 times (undo 1)",
         "perform do a; 2 times (undo 1)", "2 times (undo 1)", "perform do a;do b", "perform undo 01", "perform  do a",
         "perform do a; ", "perform save", "perform do a, do b", "perform (do a)", "nothing", "save ", " save",
         "save now", "save; revert", "saved", "Save", "revert 1", "revert ", "show all", "show ", "SHOW", "count 1",
         "count ", "counts", "changed ", "changed?", "change", "log", "help", "exit", "performundo 1",
         "outcome7 nothing", "boundsnothing", "bounds: nothing", "outcome\t7 nothing", "do\ta", "show\n", "save;",
         "undo 1;", "1", "all", "times", "x" * 4000, "do " + "a" * 3997)


class ConsoleCase(unittest.TestCase):
    def check_error(self, error, attributes, function, *arguments, **named):
        with self.assertRaises(error) as caught:
            function(*arguments, **named)
        self.assertIs(type(caught.exception), error)
        self.assertEqual(list(vars(caught.exception)), list(attributes))
        for name, value in attributes.items():
            self.assertIs(vars(caught.exception)[name], value)

    def check_told(self, console, line, expected):
        told = console.run(line)
        self.assertEqual((type(told), told), (str, expected), line)


def told_by(editor, line):
    """What the line gives, with the editor and the functions."""
    word, space, rest = line.partition(" ")
    if word == "outcome":
        length, space, text = rest.partition(" ")
        kept, items, undone = outcome(Program.read(text), int(length))
        return " ".join(map(str, (kept, undone, *items)))
    if word == "bounds":
        return " ".join("always" if bound is None else str(bound) for bound in bounds(Program.read(rest))) or "none"
    if word in ("count", "changed"):
        return str(len(editor)) if word == "count" else {True: "yes", False: "no"}[editor.changed]
    if word == "do":
        editor.do(rest)
    elif word in ("undo", "redo"):
        {"undo": editor.undo, "redo": editor.redo}[word](None if rest == "all" else int(rest))
    elif word == "perform":
        editor.perform(Program.read(rest).commands)
    elif word != "show":
        {"save": editor.save, "revert": editor.revert}[word]()
    return str(editor.history)


def drawn_line(random):
    word = random.choice(("do", "step", "step", "perform", "outcome", "bounds", "save", "revert", "revert", "show",
                          "count", "changed"))
    if word == "do":
        return "do " + random.choice(("a", "b", "nothing"))
    if word == "step":
        return str(Program(drawn_step(random, 4)))
    program = drawn_program(random, random.randint(0, 4), random.choice((3, BIG)), 3)
    if word == "perform":
        return f"perform {Program(*[command for command in program.commands if command[0] != 'repeat'])}"
    if word == "outcome":
        return f"outcome {random.choice((0, 1, 5, BIG))} {program}"
    return f"bounds {program}" if word == "bounds" else word


class OrdinaryTest(ConsoleCase):
    def test_each_line(self):
        console = Console("a", "b", "c")
        for line, expected in (
                ("show", "a b c |"), ("changed", "no"), ("count", "0"), ("undo 2", "a | b c"), ("redo 1", "a b | c"),
                ("changed", "yes"), ("revert", "a b c |"), ("revert", "a b c |"), ("count", "3"), ("do d", "a b c d |"),
                ("save", "a b c d |"), ("changed", "no"), ("undo all", "| a b c d"), ("redo all", "a b c d |"),
                ("perform undo 3; do x; undo 1", "a | x"), ("perform nothing", "a | x"), ("count", "9"),
                (f"redo {BIG}", "a x |"), ("outcome 7 do a; undo 5; do b", "3 0 b"), ("outcome 3 undo 2", "3 2"),
                ("outcome 0 nothing", "0 0"), ("outcome 10 do a; do b; undo 1", "10 1 a b"),
                ("bounds do a; undo 5; do b", "0 always"), ("bounds undo 3", "none"), ("bounds nothing", "none"),
                ("bounds do a; undo 5; redo 4; do b", "4 always"), ("show", "a x |"), ("changed", "yes"),
                (f"outcome {BIG} 3 times (undo 2, redo 1); do x", f"{BIG - 3} 0 x"), ("count", "10")):
            self.check_told(console, line, expected)

    def test_without_items(self):
        console = Console()
        for line, expected in (("show", "|"), ("undo 1", "|"), ("count", "1"), ("changed", "no"), ("revert", "|"),
                               ("do a", "a |"), ("revert", "| a")):
            self.check_told(console, line, expected)

    def test_by_name(self):
        self.assertEqual(Console("a").run(line="show"), "a |")
        self.assertRaises(TypeError, Console, names=("a",))

    def test_equality(self):
        one, two = Console("a"), Console("a")
        for other in (two, Editor("a"), None, "a", ("a",), Console, one.run("show")):
            self.assertTrue(one != other)
            self.assertFalse(one == other)
        self.assertTrue(one == one)
        self.assertFalse(one != one)
        self.assertTrue(one)

    def test_consoles_are_apart(self):
        one, two = Console("a"), Console("a")
        one.run("do b")
        self.check_told(two, "show", "a |")

    def test_drawn_lines(self):
        draw = random.Random(95)
        for turn in range(60):
            names = letters(draw.randint(0, 5))
            console, editor = Console(*names), Editor(*names)
            for step in range(40):
                line = drawn_line(draw)
                if line == "revert" and not editor.can_revert:
                    self.check_error(CannotRevert, {}, console.run, line)
                else:
                    self.check_told(console, line, told_by(editor, line))
                self.check_told(console, "show", str(editor.history))
                self.check_told(console, "count", str(len(editor)))


class ErrorsTest(ConsoleCase):
    def test_wrong_names(self):
        for value in NO_NAMES:
            for names, index in (((value,), 0), (("a", "b", value, value), 2)):
                with self.subTest(names=names), self.assertRaises(InvalidNames) as caught:
                    Console(*names)
                self.assertEqual(caught.exception.index, index)

    def check_line(self, line):
        """The line is valid exactly if the pattern says so; nothing changes if it is not."""
        console, editor = Console("a", "b", "c"), Editor("a", "b", "c")
        for each in ("undo 1", "do x"):
            console.run(each)
            told_by(editor, each)
        if LINE.fullmatch(line):
            if line != "revert":
                self.check_told(console, line, told_by(editor, line))
            return
        self.check_error(InvalidLine, {"text": line}, console.run, line)
        self.check_error(InvalidLine, {"text": line}, console.run, line=line)
        self.check_told(console, "show", str(editor.history))
        self.check_told(console, "count", "2")
        self.check_told(console, "changed", "yes")

    def test_the_pattern(self):
        for line in LINES:
            self.assertTrue(LINE.fullmatch(line), line)
        for line in WRONG:
            self.assertFalse(LINE.fullmatch(line), line)

    def test_valid_and_wrong_lines(self):
        for line in LINES + WRONG:
            with self.subTest(line=line):
                self.check_line(line)

    def test_lines_with_one_character_otherwise(self):
        for line in LINES:
            for at in range(len(line) + 1):
                for more in ("", " ", "0", "1", "a", "A", ";", ",", "(", "-", "\n"):
                    self.check_line(line[:at] + more + line[at:])
                    self.check_line(line[:at] + more + line[at + 1:])

    def test_lines_with_one_word_otherwise(self):
        draw = random.Random(96)
        for turn in range(3000):
            words = draw.choice(LINES + (drawn_line(draw),)).split(" ")
            at = draw.randint(0, len(words))
            words[at:at + draw.randint(0, 1)] = draw.choice((words[at:at + 1] * 2, [], ["0"], ["01"], ["do"], ["undo"],
                                                             ["all"], ["2", "times"], ["nothing"], [""]))
            self.check_line(" ".join(words))

    def test_values_that_are_no_strings(self):
        console = Console("a")
        for value in ANY_VALUES + (b"show", ["show"], ("show",), ("do", "a"), console):
            if not isinstance(value, str):
                self.check_error(InvalidLine, {"text": value}, console.run, value)
                self.check_error(InvalidLine, {"text": value}, console.run, line=value)
        self.check_told(console, "count", "0")

    def test_the_errors_of_revert(self):
        console = Console("a", "b")
        for line in ("undo 2", "do c"):
            console.run(line)
        self.check_error(CannotRevert, {}, console.run, "revert")
        for line in ("revert ", "revert 1", "Revert"):
            self.check_error(InvalidLine, {"text": line}, console.run, line)
        self.check_told(console, "show", "c |")
        self.check_told(console, "count", "2")
        self.check_told(console, "undo all", "| c")
        self.check_error(CannotRevert, {}, console.run, "revert")
        self.check_told(console, "save", "| c")
        self.check_told(console, "revert", "| c")


if __name__ == "__main__":
    unittest.main()
