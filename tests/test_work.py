"""How much is done for a call, counted in calls of functions, which does not depend on how fast a machine is."""
import sys
import unittest

from undotables.bounds import bounds
from undotables.building import program_for
from undotables.effects import Effect, effect_of
from undotables.histories import History
from undotables.programs import Program
from values import letters

DOS = "; ".join(["do abcdefgh", "undo 1"] * 30)
REPEATS = "; ".join(["100 times (undo 2, redo 1)"] * 30)
MIXED = "; ".join(["do ab", "undo 3", "redo all", "3 times (undo 2, redo 1)"] * 5)

SIXTY = tuple(name + more for name in letters(6) for more in letters(10))
LONG_EFFECTS = (
    Effect(SIXTY, 0, tuple((2 * at, 1, 0) for at in range(59))),
    Effect(SIXTY, 0, tuple((2 * at, 1, 58 - at) for at in range(59))),
    Effect(("a",), 0, tuple((3 * at, 1, "old" if at % 2 else "undone") for at in range(60))),
    Effect(SIXTY, 60, tuple((3 * at, 1, 0) if at % 2 else (3 * at, 2, "undone") for at in range(60))),
)


def calls_of(work):
    """The number of calls of functions, those of Python itself included, while this works."""
    counts = {"call": 0, "c_call": 0}

    def count(frame, event, value):
        counts[event] = counts.get(event, 0) + 1

    before = sys.getprofile()
    sys.setprofile(count)
    try:
        work()
    finally:
        sys.setprofile(before)
    return counts["call"] + counts["c_call"]


class WorkTest(unittest.TestCase):
    def check_calls(self, most, work):
        self.assertLess(calls_of(work), most)

    def test_calls_are_counted(self):
        self.assertGreaterEqual(calls_of(lambda: [len(name) for name in letters(100)]), 100)

    def test_items_are_not_looked_at_by_each_command(self):
        for size in (0, 40, 400):
            history = History(letters(size), letters(size))
            self.check_calls(400, lambda: Program.read(DOS)(history))
            self.check_calls(1000, lambda: Program.read(REPEATS)(history))
            self.check_calls(400, lambda: Program.read(MIXED)(history))
            self.check_calls(1500, lambda: list(Program.read(DOS).each(history)))
            self.check_calls(1500, lambda: list(Program.read(REPEATS).each(history)))
            self.check_calls(30, lambda: history.do("a"))
            self.check_calls(30, lambda: history.undo(3))
            self.check_calls(30, lambda: history.redo(3))

    def test_a_history_looks_at_each_item_once(self):
        names = letters(400)
        self.check_calls(400 * 6, lambda: History(names))

    def test_commands_are_not_looked_at_again(self):
        program = Program.read(DOS)
        self.check_calls(20, lambda: program + program)
        self.check_calls(200, lambda: Program.read(DOS))
        self.check_calls(200, lambda: Program.read(REPEATS))

    def test_effects_of_long_programs(self):
        for effect in LONG_EFFECTS:
            program = program_for(effect)
            self.assertEqual(effect_of(program), effect)
            self.check_calls(700, lambda: program_for(effect))
            self.check_calls(1500, lambda: effect_of(program))
            self.check_calls(2000, lambda: bounds(program))

    def test_effects_of_short_programs(self):
        effect = Effect(SIXTY[:12], 3, ((0, 2, "old"), (3, 1, 2), (5, 1, 0), (8, 4, "undone"), (12, 1, 1), (14, 2, "old"),
                                        (17, 1, 0), (20, None, "undone")))
        program = program_for(effect)
        self.assertEqual(effect_of(program), effect)
        self.check_calls(120, lambda: program_for(effect))
        self.check_calls(300, lambda: effect_of(program))


if __name__ == "__main__":
    unittest.main()
