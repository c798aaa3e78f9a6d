import random
import unittest

from undotables.editors import CountingEditor, CountingGuardedEditor, Editor, GuardedEditor
from undotables.errors import (CannotRevert, InvalidAmount, InvalidLimit, InvalidName, InvalidNames, TooManyDiscarded)
from undotables.histories import History
from undotables.programs import Program
from models import BIG, drawn_step, one_by_one
from values import ANY_VALUES, NO_AMOUNTS, NO_LENGTHS, NO_NAMES, EqualToAll, letters

KINDS = {Editor: "editor", CountingEditor: "counting editor", GuardedEditor: "guarded editor",
         CountingGuardedEditor: "counting guarded editor"}
GUARDED = (GuardedEditor, CountingGuardedEditor)
COUNTING = (CountingEditor, CountingGuardedEditor)
LIMITS = (None, 0, 1, 2, 399, 10 ** 130)
NO_LIMITS = tuple(value for value in NO_LENGTHS if value is not None)


class Lists:
    """What an editor keeps, as lists."""

    def __init__(self, names):
        self.past, self.future, self.saved = list(names), [], list(names)
        self.log, self.discarded, self.limit = [], 0, None

    def carry_out(self, command):
        if command[0] == "do":
            self.discarded += len(self.future)
        self.past, self.future = one_by_one((command,), self.past, self.future)
        self.log.append(command)

    def way_back(self):
        """The command that leads to the saved past."""
        more = len(self.past) - len(self.saved)
        return ("undo", more) if more > 0 else ("redo", -more)


class EditorCase(unittest.TestCase):
    def check(self, editor, lists):
        """Everything that the editor tells."""
        line = lists.past + lists.future
        self.assertEqual(editor.history, History(tuple(lists.past), tuple(lists.future)))
        self.assertIs(type(editor.history), History)
        self.assertEqual(editor.log, tuple(lists.log))
        self.assertIs(type(editor.log), tuple)
        self.assertEqual(len(editor), len(lists.log))
        self.assertIs(bool(editor), True)
        self.assertIs(editor.busy, False)
        self.assertIs(editor.changed, lists.past != lists.saved)
        self.assertIs(editor.can_revert, line[:len(lists.saved)] == lists.saved)
        told = " ".join([KINDS[type(editor)], *lists.past, "|", *lists.future])
        if isinstance(editor, CountingEditor):
            self.assertEqual(editor.discarded, lists.discarded)
            told += f", {lists.discarded} discarded"
        self.assertEqual(editor.describe(), told)
        if isinstance(editor, GuardedEditor):
            self.assertEqual(editor.limit, lists.limit)

    def check_error(self, error, attributes, function, *arguments, **named):
        with self.assertRaises(error) as caught:
            function(*arguments, **named)
        self.assertIs(type(caught.exception), error)
        self.assertEqual(list(vars(caught.exception)), list(attributes))
        for name, value in attributes.items():
            told = vars(caught.exception)[name]
            self.assertTrue(told is value or type(told) is type(value) and told == value, (told, value))


class OrdinaryTest(EditorCase):
    def test_beginning(self):
        for kind in KINDS:
            for names in ((), ("a",), ("a", "b", "a"), letters(400)):
                self.check(kind(*names), Lists(names))

    def test_kind(self):
        for kind, told in KINDS.items():
            self.assertEqual(kind.KIND, told)
            self.assertEqual(kind("a").KIND, told)
            self.assertEqual(kind.__mro__[-2], Editor)
        self.assertEqual(CountingGuardedEditor.__bases__, (CountingEditor, GuardedEditor))
        self.assertEqual(CountingEditor.__bases__, (Editor,))
        self.assertEqual(GuardedEditor.__bases__, (Editor,))

    def test_what_is_not_there(self):
        for kind in KINDS:
            self.assertEqual(hasattr(kind("a"), "discarded"), kind in COUNTING)
            self.assertEqual(hasattr(kind("a"), "limit"), kind in GUARDED)
            self.assertEqual(hasattr(kind("a"), "change_limit"), kind in GUARDED)

    def test_what_commands_return(self):
        for kind in KINDS:
            editor = kind("a", "b", "c")
            self.assertEqual([editor.undo(), editor.undo(2), editor.undo(7), editor.undo(None)], [1, 2, 0, 0])
            self.assertEqual([editor.redo(), editor.redo(amount=1), editor.redo(BIG), editor.redo()], [1, 1, 1, 0])
            self.assertEqual([editor.do("d"), editor.undo(amount=3), editor.do(name="e"), editor.do("e")], [0, 3, 3, 0])
            self.assertEqual(editor.redo(None), 0)
            self.assertEqual(str(editor.history), "a e e |")
            self.assertEqual(editor.log, (("undo", 1), ("undo", 2), ("undo", 7), ("undo", None), ("redo", 1),
                                          ("redo", 1), ("redo", BIG), ("redo", 1), ("do", "d"), ("undo", 3),
                                          ("do", "e"), ("do", "e"), ("redo", None)))

    def test_what_was_told_does_not_change(self):
        for kind in KINDS:
            editor = kind("a", "b")
            history, log = editor.history, editor.log
            editor.undo()
            editor.do("c")
            editor.perform((("undo", None),))
            self.assertEqual((str(history), log), ("a b |", ()))
            self.assertEqual(str(editor.history), "| a c")

    def test_nothing_else_can_be_assigned(self):
        editor = CountingGuardedEditor("a")
        for name in ("history", "log", "changed", "can_revert", "discarded"):
            self.assertRaises(AttributeError, setattr, editor, name, None)

    def test_drawn_commands(self):
        draw = random.Random(61)
        for kind in KINDS:
            for turn in range(12):
                names = letters(draw.randint(0, 6))
                editor, lists = kind(*names), Lists(names)
                for step in range(60):
                    self.make_step(draw, editor, lists)
                    self.check(editor, lists)

    def make_step(self, draw, editor, lists):
        """One drawn call."""
        way = draw.choice(("do", "do", "step", "step", "step", "perform", "save", "revert", "limit"))
        if way == "do":
            self.make_do(draw.choice("ab"), editor, lists)
        elif way == "step":
            word, amount = drawn_step(draw, 5)
            before = len(lists.past)
            lists.carry_out((word, amount))
            self.assertEqual((editor.undo if word == "undo" else editor.redo)(amount), abs(before - len(lists.past)))
        elif way == "perform":
            self.make_perform(draw, editor, lists)
        elif way == "save":
            self.assertIsNone(editor.save())
            lists.saved = list(lists.past)
        elif way == "revert":
            self.make_revert(editor, lists)
        elif isinstance(editor, GuardedEditor):
            lists.limit = draw.choice((None, 0, 1, 2, 5))
            editor.limit = lists.limit

    def make_do(self, name, editor, lists):
        many = len(lists.future)
        if lists.limit is not None and many > lists.limit:
            self.check_error(TooManyDiscarded, {"count": many}, editor.do, name)
            return
        self.assertEqual(editor.do(name), many)
        lists.carry_out(("do", name))

    def make_perform(self, draw, editor, lists):
        commands = tuple(draw.choice((("do", "a"), ("do", "b"), ("repeat", 2, (drawn_step(draw, 3),) * 2),
                                      drawn_step(draw, 3))) for at in range(draw.randint(0, 5)))
        after = Lists(())
        after.past, after.future, after.discarded, after.log = lists.past, lists.future, lists.discarded, [*lists.log]
        for command in commands:
            if command[0] == "do" and lists.limit is not None and len(after.future) > lists.limit:
                self.check_error(TooManyDiscarded, {"count": len(after.future)}, editor.perform, commands)
                return
            after.carry_out(command)
        self.assertIsNone(editor.perform(commands))
        lists.past, lists.future, lists.discarded, lists.log = after.past, after.future, after.discarded, after.log

    def make_revert(self, editor, lists):
        if lists.past == lists.saved:
            self.assertIsNone(editor.revert())
        elif (lists.past + lists.future)[:len(lists.saved)] != lists.saved:
            self.check_error(CannotRevert, {}, editor.revert)
        else:
            command = lists.way_back()
            self.assertEqual(editor.revert(), command)
            lists.carry_out(command)
            self.assertEqual(lists.past, lists.saved)


class EqualityTest(unittest.TestCase):
    def test_equal_histories(self):
        for kind in KINDS:
            for other_kind in KINDS:
                editor, other = kind("a", "b", "a"), other_kind("a", "b")
                self.assertTrue(editor != other)
                self.assertFalse(editor == other)
                other.do("a")
                other.save()
                self.assertTrue(editor == other)
                self.assertFalse(editor != other)
                editor.undo()
                self.assertFalse(editor == other)
                self.assertTrue(editor != other)
                other.undo(1)
                self.assertTrue(editor == other)

    def test_never_equal_to_other_values(self):
        for kind in KINDS:
            for editor in (kind(), kind("a")):
                for value in (*ANY_VALUES, editor.history, History(), History.of("a"), Program(), editor.describe(),
                              (), ("a",), kind):
                    if not isinstance(value, EqualToAll):
                        self.assertIs(editor == value, False)
                        self.assertIs(editor != value, True)
                        self.assertIs(value == editor, False)


class SavingTest(EditorCase):
    def revert(self, kind, names, *steps):
        """What `revert` returns after these commands and saves, and the history afterwards."""
        editor = kind(*names)
        for step in steps:
            editor.save() if step == "save" else editor.perform((step,))
        return editor.revert(), str(editor.history), editor.changed, editor.can_revert, editor.log[-1:]

    def test_the_command_that_leads_back(self):
        for kind in KINDS:
            for steps, told in (
                    ((("undo", 2),), (("redo", 2), "a b c |")),
                    ((("undo", None),), (("redo", 3), "a b c |")),
                    ((("do", "d"), ("do", "e")), (("undo", 2), "a b c | d e")),
                    ((("undo", 1), "save", ("undo", 1)), (("redo", 1), "a b | c")),
                    ((("undo", 1), "save", ("redo", None)), (("undo", 1), "a b | c")),
                    ((("undo", 1), "save", ("do", "x"), ("do", "c"), ("undo", 3)), (("redo", 1), "a b | x c")),
                    ((("undo", None), "save", ("redo", None)), (("undo", 3), "| a b c")),
                    ((("undo", 2), ("do", "b"), ("undo", 1), "save", ("redo", 1)), (("undo", 1), "a | b"))):
                self.assertEqual(self.revert(kind, "abc", *steps), (*told, False, True, (told[0],)))

    def test_nothing_to_do(self):
        for kind in KINDS:
            self.assertEqual(self.revert(kind, "abc"), (None, "a b c |", False, True, ()))
            self.assertEqual(self.revert(kind, ""), (None, "|", False, True, ()))
            self.assertEqual(self.revert(kind, "abc", ("undo", 1), "save"),
                             (None, "a b | c", False, True, (("undo", 1),)))
            self.assertEqual(self.revert(kind, "abc", ("undo", 1), ("redo", 1)),
                             (None, "a b c |", False, True, (("redo", 1),)))

    def test_a_discarded_part_of_the_saved_past(self):
        for kind in KINDS:
            editor = kind("a", "b", "c")
            editor.undo(2)
            editor.do("x")
            self.assertEqual((editor.changed, editor.can_revert), (True, False))
            self.check_error(CannotRevert, {}, editor.revert)
            self.assertEqual((str(editor.history), len(editor)), ("a x |", 2))
            editor.do("c")
            self.assertIs(editor.can_revert, False)
            editor.undo(None)
            self.check_error(CannotRevert, {}, editor.revert)
            editor.save()
            self.assertIs(editor.revert(), None)
            editor.redo()
            self.assertEqual(editor.revert(), ("undo", 1))

    def test_items_of_the_same_names(self):
        for kind in KINDS:
            editor = kind("a", "b", "c")
            editor.undo(2)
            self.assertEqual(editor.do("b"), 2)
            self.assertEqual((editor.changed, editor.can_revert), (True, False))
            editor.do("c")
            self.assertEqual((editor.changed, editor.can_revert, editor.revert()), (False, True, None))
            editor.do("c")
            editor.undo(3)
            self.assertEqual((editor.revert(), str(editor.history)), (("redo", 2), "a b c | c"))


class GuardedTest(EditorCase):
    def test_limits(self):
        for kind in GUARDED:
            editor = kind("a", "b")
            self.assertIsNone(editor.limit)
            for limit in LIMITS:
                editor.limit = limit
                self.assertEqual(editor.limit, limit)
                editor.limit = None
                self.assertIsNone(editor.change_limit(limit))
                self.assertEqual(editor.limit, limit)
                editor.limit = None
                editor.change_limit(limit=limit)
                self.assertEqual(editor.limit, limit)

    def test_no_limits(self):
        for kind in GUARDED:
            editor = kind("a", "b")
            editor.change_limit(2)
            for value in NO_LIMITS:
                self.check_error(InvalidLimit, {"value": value}, setattr, editor, "limit", value)
                self.check_error(InvalidLimit, {"value": value}, editor.change_limit, value)
                self.check_error(InvalidLimit, {"value": value}, editor.change_limit, limit=value)
                self.assertEqual(editor.limit, 2)

    def test_too_many_discarded(self):
        for kind in GUARDED:
            for limit, undone in ((0, 1), (1, 2), (1, 3), (3, 4), (0, 4)):
                editor = kind("a", "b", "c", "d")
                editor.undo(undone)
                editor.limit = limit
                before = editor.history
                self.check_error(TooManyDiscarded, {"count": undone}, editor.do, "x")
                self.check_error(InvalidName, {"name": "X"}, editor.do, "X")
                self.check_error(TooManyDiscarded, {"count": undone}, editor.perform, (("do", "x"),))
                self.assertEqual((editor.history, len(editor), editor.limit), (before, 1, limit))
                if kind is CountingGuardedEditor:
                    self.assertEqual(editor.discarded, 0)
                editor.redo(undone - limit)
                self.assertEqual(editor.do("x"), limit)

    def test_no_limit_and_great_limits(self):
        for kind in GUARDED:
            for limit in (None, 3, 4, BIG):
                editor = kind("a", "b", "c")
                editor.limit = limit
                editor.undo(None)
                self.assertEqual(editor.do("x"), 3)

    def test_a_limit_is_only_for_a_do(self):
        for kind in GUARDED:
            editor = kind("a", "b", "c")
            editor.limit = 0
            editor.save()
            editor.perform((("undo", None), ("repeat", BIG, (("redo", 2), ("undo", 1)))))
            self.assertEqual(editor.undo(None), 2)
            self.assertEqual(editor.revert(), ("redo", 3))

    def test_both_at_once(self):
        editor = CountingGuardedEditor("a", "b", "c")
        editor.change_limit(2)
        editor.undo(2)
        self.assertEqual((editor.do("d"), editor.discarded), (2, 2))
        editor.undo(None)
        editor.change_limit(1)
        self.check_error(TooManyDiscarded, {"count": 2}, editor.do, "e")
        self.assertEqual((editor.discarded, editor.describe()), (2, "counting guarded editor | a d, 2 discarded"))
        editor.redo()
        self.assertEqual((editor.do("e"), editor.discarded, str(editor.history)), (1, 3, "a e |"))


class ErrorsTest(EditorCase):
    def test_wrong_names_at_the_beginning(self):
        for kind in KINDS:
            for value in NO_NAMES:
                self.check_error(InvalidNames, {"index": 0}, kind, value)
                self.check_error(InvalidNames, {"index": 2}, kind, "a", "b", value, "c", value)
            self.assertRaises(TypeError, kind, names=("a",))

    def test_nothing_is_changed(self):
        for kind in KINDS:
            editor, lists = kind("a", "b"), Lists("ab")
            editor.undo()
            lists.carry_out(("undo", 1))
            for value in NO_NAMES:
                self.check_error(InvalidName, {"name": value}, editor.do, value)
                self.check_error(InvalidName, {"name": value}, editor.do, name=value)
            for value in NO_AMOUNTS:
                for function in (editor.undo, editor.redo):
                    self.check_error(InvalidAmount, {"amount": value}, function, value)
                    self.check_error(InvalidAmount, {"amount": value}, function, amount=value)
            self.check(editor, lists)


if __name__ == "__main__":
    unittest.main()
