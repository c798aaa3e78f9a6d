import random
import unittest

from undotables.editors import CountingEditor, CountingGuardedEditor, Editor, GuardedEditor
from undotables.errors import Busy, InvalidName, InvalidProgram, TooManyDiscarded
from undotables.histories import History
from undotables.programs import Program
from models import BIG, drawn_program, one_by_one
from test_programs import COMMANDS, NO_COMMANDS
from values import NO_TUPLES

KINDS = (Editor, CountingEditor, GuardedEditor, CountingGuardedEditor)
GUARDED = (GuardedEditor, CountingGuardedEditor)
REPEAT = ("repeat", 3, (("undo", 2), ("redo", 1)))


class Stop(Exception):
    """What a watch of these tests raises."""


def told(editor):
    """All that an editor keeps."""
    return (editor.history, editor.log, len(editor), editor.changed, editor.can_revert, editor.busy, editor.describe(),
            editor.discarded if isinstance(editor, CountingEditor) else None,
            editor.limit if isinstance(editor, GuardedEditor) else None)


class PerformCase(unittest.TestCase):
    def check_error(self, error, attributes, function, *arguments, **named):
        with self.assertRaises(error) as caught:
            function(*arguments, **named)
        self.assertIs(type(caught.exception), error)
        self.assertEqual({name: (type(value), value) for name, value in vars(caught.exception).items()},
                         {name: (type(value), value) for name, value in attributes.items()})

    def changed_editor(self, kind):
        """An editor with something of everything."""
        editor = kind("a", "b", "c")
        editor.undo(2)
        editor.do("d")
        editor.undo()
        editor.save()
        editor.do("e")
        editor.undo(None)
        if kind in GUARDED:
            editor.limit = 2
        return editor


class CommandsTest(PerformCase):
    def test_all_commands(self):
        for kind in KINDS:
            editor = kind("a", "b", "c")
            commands = (("do", "d"), REPEAT, ("undo", None), ("redo", BIG), ("redo", 1), ("undo", 2))
            self.assertIsNone(editor.perform(commands))
            self.assertEqual(str(editor.history), "a b | c d")
            self.assertEqual(editor.log, commands)
            self.assertEqual(len(editor), 6)
            self.assertIsNone(editor.perform(commands=(REPEAT,), watch=None))
            self.assertEqual(editor.log, commands + (REPEAT,))
            self.assertIsNone(editor.perform(()))
            self.assertEqual(len(editor), 7)

    def test_great_repeats(self):
        for kind in KINDS:
            editor = kind("a", "b", "c")
            command = ("repeat", BIG, (("undo", BIG), ("redo", 2), ("undo", 1)))
            editor.perform((command, command))
            self.assertEqual((str(editor.history), editor.log), ("a | b c", (command, command)))

    def test_drawn_commands(self):
        draw = random.Random(65)
        for turn in range(200):
            commands = drawn_program(draw, draw.randint(0, 10), 4, 4).commands
            past, future = one_by_one(commands, "abc", ())
            for kind in KINDS:
                editor = kind("a", "b", "c")
                editor.perform(commands)
                self.assertEqual(editor.history, History(tuple(past), tuple(future)))
                self.assertEqual(editor.history, Program(*commands)(History.of("a", "b", "c")))
                self.assertEqual(editor.log, commands)
                self.assertIs(editor.busy, False)

    def test_discarded_items_are_counted(self):
        for kind in (CountingEditor, CountingGuardedEditor):
            editor = kind("a", "b", "c")
            editor.perform((("undo", 2), ("do", "d"), ("do", "e"), REPEAT, ("do", "f")))
            self.assertEqual((editor.discarded, str(editor.history)), (4, "a f |"))

    def test_no_tuple(self):
        for kind in KINDS:
            editor = self.changed_editor(kind)
            before = told(editor)
            for value in (*NO_TUPLES, [("do", "a")], Program(("do", "a")), History(), "do a"):
                self.check_error(InvalidProgram, {"index": None}, editor.perform, value)
                self.check_error(InvalidProgram, {"index": None}, editor.perform, commands=value, watch=None)
            self.assertEqual(told(editor), before)

    def test_no_commands(self):
        for kind in KINDS:
            editor = self.changed_editor(kind)
            before, seen = told(editor), []
            for value in NO_COMMANDS:
                for commands, index in (((value,), 0), ((("do", "a"), REPEAT, value, ("undo", 1), value), 2)):
                    self.check_error(InvalidProgram, {"index": index}, editor.perform, commands)
                    self.check_error(InvalidProgram, {"index": index}, editor.perform, commands,
                                     watch=lambda editor, at: seen.append(at))
            self.assertEqual((told(editor), seen), (before, []))
            editor.perform(COMMANDS[:3])
            self.assertEqual(editor.log[-3:], COMMANDS[:3])

    def test_watch_is_passed_by_name_only(self):
        self.assertRaises(TypeError, Editor("a").perform, (), None)

    def test_too_many_discarded(self):
        more = (("redo", 1), ("repeat", 2, (("undo", 2), ("redo", 1))), ("do", "x"), ("undo", 1))
        for kind in GUARDED:
            for first in range(5):
                editor, seen = kind("a", "b", "c", "d"), []
                editor.perform((("undo", 1), ("do", "e"), ("undo", 1)))
                editor.save()
                editor.limit = 2
                before = told(editor)
                commands = more[:first] + (("undo", 3), ("redo", None), ("undo", 3), ("do", "y")) + more
                self.check_error(TooManyDiscarded, {"count": 3}, editor.perform, commands,
                                 watch=lambda editor, at: seen.append(at))
                self.assertEqual(told(editor), before)
                self.assertEqual(seen, list(range(first + 3)))
                self.assertIsNone(editor.revert())
                editor.perform(commands[:first + 3])

class WatchTest(PerformCase):
    def test_watch_is_called_after_each_command(self):
        commands = (("undo", 2), REPEAT, ("redo", 1), ("do", "x"), ("undo", None))
        for kind in KINDS:
            editor, single, seen = kind("a", "b", "c"), kind("a", "b", "c"), []
            editor.perform(commands, watch=lambda one, at: seen.append((one is editor, at, told(one))))
            for at, command in enumerate(commands):
                single.perform((command,))
                same, index, then = seen[at]
                self.assertEqual((same, type(index), index), (True, int, at))
                self.assertEqual(then[:5] + then[6:], told(single)[:5] + told(single)[6:])
                self.assertIs(then[5], True)
            self.assertEqual(len(seen), len(commands))
            self.assertEqual(told(editor), told(single))

    def test_watch_is_not_called_without_commands(self):
        editor, seen = Editor("a"), []
        editor.perform((), watch=lambda editor, at: seen.append(at))
        self.assertEqual(seen, [])

    def test_watch_that_raises(self):
        commands = (("undo", 2), REPEAT, ("do", "x"), ("redo", 1), ("undo", None))
        for kind in KINDS:
            for last in range(len(commands)):
                for error in (Stop, ValueError, LookupError, Busy, KeyboardInterrupt, GeneratorExit):
                    self.check_stop(kind, commands, last, error)

    def check_stop(self, kind, commands, last, error):
        editor, seen = self.changed_editor(kind), []
        before, history = told(editor), editor.history
        raised = error()

        def watch(one, at):
            seen.append(at)
            if at == last:
                raise raised

        with self.assertRaises(error) as caught:
            editor.perform(commands, watch=watch)
        self.assertIs(caught.exception, raised)
        self.assertEqual(seen, list(range(last + 1)))
        self.assertEqual(told(editor), before)
        self.assertIs(editor.busy, False)
        # It works on as before.
        editor.perform(commands)
        self.assertEqual(editor.history, Program(*commands)(history))
        self.assertEqual(editor.log, before[1] + commands)
        self.assertEqual(editor.revert() is None, editor.history.past == history.past)

    def test_watch_that_raises_ahead_of_too_many(self):
        for kind in GUARDED:
            editor = self.changed_editor(kind)
            before = told(editor)

            def watch(one, at):
                if at == 1:
                    raise Stop

            self.assertRaises(Stop, editor.perform, (("undo", 1), ("redo", 1), ("do", "x"), ("undo", None),
                                                     ("do", "y")), watch=watch)
            self.assertEqual(told(editor), before)


class BusyTest(PerformCase):
    def busy_calls(self, editor):
        """All calls that a busy editor refuses; each is wrong in other ways too, where that is possible."""
        calls = [(function, arguments) for function, wrong in (
            (editor.do, "X"), (editor.undo, 0), (editor.redo, True), (editor.perform, [None]))
            for arguments in ((wrong,), ("a" if function == editor.do else () if function == editor.perform else 1,))]
        calls += [(editor.undo, ()), (editor.redo, ()), (editor.save, ()), (editor.revert, ())]
        if isinstance(editor, GuardedEditor):
            for value in (-1, 1, None):
                calls += [(editor.change_limit, (value,)), (setattr, (editor, "limit", value))]
        return calls

    def test_calls_of_watch(self):
        for kind in KINDS:
            editor, seen = self.changed_editor(kind), []

            def watch(one, at):
                before = told(one)
                for function, arguments in self.busy_calls(one):
                    self.check_error(Busy, {}, function, *arguments)
                    seen.append(function)
                self.assertEqual(told(one), before)
                self.assertIs(one.busy, True)

            editor.perform((("redo", 1), REPEAT), watch=watch)
            self.assertEqual(len(seen), 2 * len(self.busy_calls(editor)))
            self.assertEqual(editor.log[-2:], (("redo", 1), REPEAT))
            self.assertIs(editor.busy, False)

    def test_too_many_discarded_is_not_told_while_busy(self):
        for kind in GUARDED:
            editor = self.changed_editor(kind)
            editor.limit = 0
            editor.perform((("undo", None),), watch=lambda one, at: self.check_error(Busy, {}, one.do, "x"))
            self.check_error(TooManyDiscarded, {"count": 2}, editor.do, "x")
            self.check_error(InvalidName, {"name": "X"}, editor.do, "X")

    def test_an_error_of_a_busy_editor_goes_on_to_the_caller(self):
        for kind in KINDS:
            for at in range(len(self.busy_calls(self.changed_editor(kind)))):
                editor = self.changed_editor(kind)
                before = told(editor)

                def watch(one, index):
                    function, arguments = self.busy_calls(one)[at]
                    function(*arguments)

                self.check_error(Busy, {}, editor.perform, (("do", "x"), ("do", "y")), watch=watch)
                self.assertEqual(told(editor), before)
                editor.do("z")

    def test_what_may_be_called_all_the_same(self):
        for kind in KINDS:
            editor = kind("a", "b")
            texts = []

            def watch(one, at):
                texts.append((one.describe(), str(one.history), len(one), bool(one), one == editor, one.log, one.busy,
                              one.changed, one.can_revert))
                other = kind("x")
                other.perform((("undo", 1),))
                self.assertIs(other.busy, False)

            editor.perform((("undo", 1),), watch=watch)
            self.assertEqual(texts[0][1:], ("a | b", 1, True, True, (("undo", 1),), True, True, True))


if __name__ == "__main__":
    unittest.main()
