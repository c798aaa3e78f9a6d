import unittest

from undotables.errors import InvalidAmount, InvalidName, InvalidNames
from undotables.histories import History
from values import AMOUNTS, ANY_VALUES, NAMES, NO_AMOUNTS, NO_NAMES, NO_TUPLES, EqualToAll, letters


def parts(history):
    return history.past, history.future


class HistoryCase(unittest.TestCase):
    def check_parts(self, history, past, future):
        self.assertIsInstance(history, History)
        self.assertEqual(parts(history), (past, future))
        self.assertIs(type(history.past), tuple)
        self.assertIs(type(history.future), tuple)

    def check_index(self, index, make, *arguments, **named):
        with self.assertRaises(InvalidNames) as caught:
            make(*arguments, **named)
        self.assertEqual((type(caught.exception.index), caught.exception.index), (type(index), index))


class MakingTest(HistoryCase):
    def test_without_arguments(self):
        self.check_parts(History(), (), ())

    def test_by_position_and_by_name(self):
        self.check_parts(History(("a", "b")), ("a", "b"), ())
        self.check_parts(History(("a",), ("b", "c")), ("a",), ("b", "c"))
        self.check_parts(History(past=("a",)), ("a",), ())
        self.check_parts(History(future=("b", "c")), (), ("b", "c"))
        self.check_parts(History(future=("b",), past=("a", "a")), ("a", "a"), ("b",))

    def test_attributes_are_set_on_the_object(self):
        self.assertEqual(vars(History(("a",), ("b",))), {"past": ("a",), "future": ("b",)})

    def test_of(self):
        self.check_parts(History.of(), (), ())
        self.check_parts(History.of("a"), ("a",), ())
        self.check_parts(History.of("a", "b", "a"), ("a", "b", "a"), ())
        self.check_parts(History(("x",), ("y",)).of("a"), ("a",), ())

    def test_every_name_is_an_item(self):
        self.check_parts(History(NAMES, NAMES), NAMES, NAMES)
        self.check_parts(History.of(*NAMES), NAMES, ())

    def test_long_histories(self):
        names = letters(450)
        self.check_parts(History(names, names), names, names)

    def test_no_tuple(self):
        for value in NO_TUPLES:
            with self.subTest(value=value):
                self.check_index(None, History, value)
                self.check_index(None, History, ("a",), value)
                self.check_index(None, History, past=value)
                self.check_index(None, History, future=value)

    def test_the_first_wrong_name_is_told(self):
        for value in NO_NAMES:
            with self.subTest(value=value):
                self.check_index(0, History, (value,))
                self.check_index(1, History, ("a", value, "b", value))
                self.check_index(2, History, (), ("a", "b", value))
                self.check_index(0, History.of, value)
                self.check_index(2, History.of, "a", "b", value, "c", value)

    def test_past_is_checked_ahead_of_future(self):
        self.check_index(1, History, ("a", "B"), (1,))
        self.check_index(None, History, ["a"], (1,))
        self.check_index(1, History, ("a", "B"), None)
        self.check_index(1, History, future=[], past=("a", "B"))
        self.check_index(0, History, ("a", "b"), (1,))


class CommandsTest(HistoryCase):
    def setUp(self):
        self.history = History(("a", "b", "c"), ("d", "e"))

    def tearDown(self):
        self.check_parts(self.history, ("a", "b", "c"), ("d", "e"))

    def test_do(self):
        self.check_parts(self.history.do("x"), ("a", "b", "c", "x"), ())
        self.check_parts(self.history.do(name="a"), ("a", "b", "c", "a"), ())
        self.check_parts(History().do("x"), ("x",), ())
        self.check_parts(History((), ("a",)).do("x"), ("x",), ())
        for name in NAMES:
            self.check_parts(self.history.do(name), ("a", "b", "c", name), ())

    def test_undo(self):
        self.check_parts(self.history.undo(), ("a", "b"), ("c", "d", "e"))
        self.check_parts(self.history.undo(1), ("a", "b"), ("c", "d", "e"))
        self.check_parts(self.history.undo(2), ("a",), ("b", "c", "d", "e"))
        self.check_parts(self.history.undo(amount=2), ("a",), ("b", "c", "d", "e"))
        for amount in (3, 4, 5, None, 10 ** 59, 10 ** 130):
            self.check_parts(self.history.undo(amount), (), ("a", "b", "c", "d", "e"))

    def test_redo(self):
        self.check_parts(self.history.redo(), ("a", "b", "c", "d"), ("e",))
        self.check_parts(self.history.redo(1), ("a", "b", "c", "d"), ("e",))
        for amount in (2, 3, 5, None, 10 ** 59, 10 ** 130):
            self.check_parts(self.history.redo(amount), ("a", "b", "c", "d", "e"), ())
        self.check_parts(self.history.redo(amount=2), ("a", "b", "c", "d", "e"), ())

    def test_nothing_to_move(self):
        for amount in AMOUNTS:
            self.check_parts(History((), ("a",)).undo(amount), (), ("a",))
            self.check_parts(History(("a",), ()).redo(amount), ("a",), ())
            self.check_parts(History().undo(amount), (), ())
            self.check_parts(History().redo(amount), (), ())
        self.check_parts(History().undo().redo(), (), ())

    def test_long_history(self):
        names = letters(400)
        back = History(names).undo(150)
        self.check_parts(back, names[:250], names[250:])
        self.check_parts(back.redo(149), names[:399], names[399:])
        self.check_parts(back.undo(10 ** 59).redo(10 ** 59), names, ())

    def test_wrong_names(self):
        for value in NO_NAMES:
            with self.subTest(value=value), self.assertRaises(InvalidName) as caught:
                self.history.do(value)
            self.assertIs(caught.exception.name, value)

    def test_wrong_amounts(self):
        for value in NO_AMOUNTS:
            for move in (self.history.undo, self.history.redo, History().undo, History().redo):
                with self.subTest(value=value), self.assertRaises(InvalidAmount) as caught:
                    move(value)
                self.assertIs(caught.exception.amount, value)


class QuestionsTest(HistoryCase):
    def test_line(self):
        self.assertEqual(History(("a", "b"), ("c", "d")).line, ("a", "b", "c", "d"))
        self.assertEqual(History().line, ())
        self.assertEqual(History((), ("c", "d")).line, ("c", "d"))

    def test_length_and_truth(self):
        for past, future in (((), ()), (("a",), ()), ((), ("a",)), (("a", "a"), ("a",)), (letters(400), letters(7))):
            history = History(past, future)
            self.assertEqual(len(history), len(past) + len(future))
            self.assertIs(bool(history), bool(past or future))

    def test_in_asks_the_past_only(self):
        history = History(("a", "b"), ("c",))
        self.assertIs("a" in history, True)
        self.assertIs("b" in history, True)
        self.assertIs("c" in history, False)
        self.assertIs("d" in history, False)
        self.assertIs("c" not in history, True)

    def test_in_for_any_value(self):
        history = History(("a", "ab"), ("c",))
        for value in ANY_VALUES + (history, ("a", "ab"), EqualToAll()):
            if value != "a" or isinstance(value, EqualToAll):
                with self.subTest(value=value):
                    self.assertIs(value in history, False)

    def test_equality(self):
        history = History(("a", "b"), ("c",))
        self.assertTrue(history == History(("a", "b"), ("c",)))
        self.assertFalse(history != History(("a", "b"), ("c",)))
        self.assertTrue(History() == History.of())
        for other in (History(("a",), ("b", "c")), History(("a", "b", "c")), History(("a", "b"), ("d",)),
                      History(("b", "a"), ("c",)), History((), ("a", "b", "c")), History()):
            self.assertFalse(history == other)
            self.assertTrue(history != other)

    def test_never_equal_to_other_values(self):
        for history in (History(), History(("a",), ())):
            for value in (*ANY_VALUES, ("a",), (("a",), ()), str(history), repr(history), History):
                if not isinstance(value, EqualToAll):
                    with self.subTest(value=value):
                        self.assertIs(history == value, False)
                        self.assertIs(history != value, True)

    def test_text(self):
        self.assertEqual(str(History()), "|")
        self.assertEqual(str(History(("a", "b"))), "a b |")
        self.assertEqual(str(History((), ("c", "d"))), "| c d")
        self.assertEqual(str(History(("a", "b"), ("c", "d"))), "a b | c d")
        self.assertEqual(str(History(letters(400))), " ".join(letters(400)) + " |")

    def test_repr(self):
        self.assertEqual(repr(History()), "History(0, 0)")
        self.assertEqual(repr(History(("a", "b"), ("c",))), "History(2, 1)")
        self.assertEqual(repr(History(letters(12), letters(400))), "History(12, 400)")


if __name__ == "__main__":
    unittest.main()
