"""Values that several tests pass."""


class EqualToAll:
    """A value with an equality of its own, as any value may be passed."""

    def __eq__(self, other):
        return True

    def __ne__(self, other):
        return False


NAMES = ("a", "z", "abcdefgh", "do", "undo", "redo", "all", "times", "nothing", "repeat")
NO_NAMES = ("", "abcdefghi", "a" * 4000, "A", "aB", "a1", "1", "a b", " a", "a ", "a\n", "-", "|", "a;", "`", "{",
            None, True, False, 0, 1, b"a", [], ["a"], (), ("a",), {}, {"a": "a"}, {"a"}, object(), EqualToAll(), str)
AMOUNTS = (None, 1, 2, 3, 399, 10 ** 59, 10 ** 130)
NO_INTEGERS_FROM_1 = (0, -1, -10 ** 59, True, False, "", "1", "all", b"1", [], [1], (), (1,), {}, {1}, object(),
                      EqualToAll(), int)
NO_AMOUNTS = NO_INTEGERS_FROM_1
NO_TUPLES = (None, True, False, 0, 1, 10 ** 59, "", "a", "abc", b"a", [], ["a"], {}, {"a": 1}, set(), {"a"}, object(),
             EqualToAll(), tuple)
ANY_VALUES = NO_NAMES + NO_AMOUNTS + NO_TUPLES + (("do", "a"), (("a",), ()), [("undo", 1)], 10 ** 130)


def letters(many):
    """So many names, not all of them different."""
    return tuple("abcdefghijklmnopqrstuvwxyz"[at % 26] for at in range(many))


NO_LENGTHS = (None, *[value for value in NO_INTEGERS_FROM_1 if value is False or value != 0 or
                      isinstance(value, EqualToAll)], -10 ** 130, (("do", "a"),), [[], {}], int, {"length": 1})
LENGTHS = (0, 1, 2, 3, 10 ** 30, 10 ** 59, 10 ** 130)
