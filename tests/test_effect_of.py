import itertools
import random
import unittest

from undotables.effects import Effect, effect_of
from undotables.errors import NotAProgram
from undotables.histories import History
from undotables.outcomes import outcome, outcomes
from undotables.programs import Program
from undotables.words import steps_of_repeat
from models import (BIG, clamped, drawn_program, effect_by_outcomes, left_by_doubling, left_one_by_one, map_of,
                    one_by_one, reach, small_programs)
from values import ANY_VALUES, LENGTHS, letters


def parts(effect):
    return effect.new_names, effect.undone_count, effect.changes


def ends_of(effect):
    """The lengths at which a word begins or ends, and those beside them."""
    for length, times, what in effect.changes:
        for end in (length, length + (times or 0)):
            yield from [near for near in (end - 1, end, end + 1) if near >= 0]


class EffectOfCase(unittest.TestCase):
    def check_effect(self, text, *expected):
        effect = effect_of(Program.read(text))
        self.assertEqual(parts(effect), expected, text)
        self.assertIs(type(effect), Effect)

    def check_outcomes(self, program, lengths, left):
        effect = effect_of(program)
        self.assertEqual(Effect(*parts(effect)), effect)
        for length in lengths:
            self.assertEqual(effect[length], left(program, length)[0], (str(program), length))


class OrdinaryTest(EffectOfCase):
    def test_without_a_do(self):
        self.check_effect("nothing", (), 0, ())
        self.check_effect("undo 3", (), 0, ((0, 3, "undone"),))
        self.check_effect("undo all", (), 0, ((0, None, "undone"),))
        self.check_effect("redo 3", (), 0, ())
        self.check_effect("redo all", (), 0, ())
        self.check_effect("undo 5; redo 2", (), 0, ((2, 3, "undone"),))
        self.check_effect("undo all; redo 2", (), 0, ((2, None, "undone"),))
        self.check_effect("undo 9; redo 6; undo 2", (), 0, ((0, 2, "undone"), (6, 3, "undone")))
        self.check_effect("undo all; redo all", (), 0, ())
        self.check_effect(f"undo {BIG}; redo {BIG - 1}", (), 0, ((BIG - 1, 1, "undone"),))

    def test_with_dos(self):
        self.check_effect("do a", ("a",), 0, ())
        self.check_effect("do a; undo 1", ("a",), 1, ())
        self.check_effect("do a; undo 4", ("a",), 1, ((0, 3, "undone"),))
        self.check_effect("do a; undo 4; redo 1", ("a",), 0, ((0, 3, "undone"),))
        self.check_effect("do a; undo 4; do b", ("b",), 0, ((0, 3, "old"),))
        self.check_effect("undo all; do b", ("b",), 0, ((0, None, "old"),))
        self.check_effect("do a; undo 5; redo 4; do b", ("a", "b"), 0, ((3, 1, 0),))
        self.check_effect("do a; do a; undo 5; redo 4; do b", ("a", "a", "b"), 0, ((2, 1, 0),))
        self.check_effect("do b; do a; undo 5; redo 3; do a", ("b", "a", "a"), 0, ((1, 1, 1), (2, 1, 0)))
        self.check_effect("do b; do a; undo 5; redo 2; do a", ("b", "a", "a"), 0, ((0, 1, 1), (1, 1, 0), (2, 1, "old")))

    def test_of_a_later_do_on_words(self):
        self.check_effect("do a; undo 5; redo 4; do b; undo 2; do c", ("c",), 0, ((3, 1, "old"),))
        self.check_effect("do a; undo 5; redo 4; do b; undo 1; do c", ("a", "c"), 0, ((3, 1, 0),))
        self.check_effect("do a; undo 5; redo 4; do b; undo all; redo 4; do c",
                          ("a", "b", "c"), 0, ((2, 1, 1), (3, 1, 0), (4, None, "old")))

    def test_endless_words(self):
        self.check_effect("do a; undo all", ("a",), 1, ((0, None, "undone"),))
        self.check_effect("do a; undo all; redo 3", ("a",), 0, ((2, None, "undone"),))
        self.check_effect("do a; undo all; redo 3; do b", ("a", "b"), 0, ((2, 1, 0), (3, None, "old")))
        self.check_effect("undo all; redo 2; do a; undo all", ("a",), 1, ((0, 2, "undone"), (2, None, "old")))
        self.check_effect(f"{BIG} times (undo all, redo 3); do a", ("a",), 0, ((3, None, "old"),))

    def test_repeats(self):
        self.check_effect(f"{BIG} times (undo 2, redo 1); do a", ("a",), 0, ((1, BIG, "old"),))
        self.check_effect(f"{BIG} times (undo 2, redo 2)", (), 0, ())
        self.check_effect(f"{BIG} times (redo 3, undo {BIG})", (), 0, ((0, BIG * BIG - 3 * BIG + 3, "undone"),))
        self.check_effect(f"undo {BIG * BIG}; {BIG} times (undo 2, redo 3)", (), 0,
                          ((BIG + 2, BIG * BIG - BIG, "undone"),))
        self.check_effect(f"do a; {BIG} times (undo 1)", ("a",), 1, ((0, BIG - 1, "undone"),))

    def test_great_amounts(self):
        self.check_effect(f"do a; undo {BIG}; redo {BIG - 1}; do b", ("a", "b"), 0, ((BIG - 2, 1, 0),))
        self.check_effect(f"do a; undo {10 ** 129}; do b", ("b",), 0, ((0, 10 ** 129 - 1, "old"),))

    def test_sixty_items(self):
        program = Program(*[("do", name) for name in letters(60)], ("undo", None), ("redo", 50), ("do", "x"))
        losses = tuple((at, 1, 49 - at) for at in range(49))
        self.assertEqual(parts(effect_of(program)),
                         (letters(50) + ("x",), 0, losses + ((49, 1, 0), (50, None, "old"))))

    def test_by_name(self):
        self.assertEqual(effect_of(program=Program.read("do a; undo 1")), Effect(("a",), 1))


class ComparedTest(EffectOfCase):
    def test_small_programs(self):
        for program in small_programs(3):
            self.check_outcomes(program, range(reach(program) + 3), left_one_by_one)
            self.assertEqual(parts(effect_of(program)), effect_by_outcomes(program))

    def test_drawn_programs(self):
        draw = random.Random(10)
        for turn in range(150):
            program = drawn_program(draw, draw.randint(0, 12), 7, 4)
            self.check_outcomes(program, range(min(60, reach(program) + 3)), left_one_by_one)

    def test_drawn_programs_up_to_the_reach(self):
        draw = random.Random(11)
        for turn in range(150):
            program = drawn_program(draw, draw.randint(0, 30), 7, 4)
            self.check_outcomes(program, range(0, reach(program) + 3, 1 + reach(program) // 150), left_by_doubling)

    def test_great_lengths_amounts_and_turns(self):
        draw = random.Random(12)
        for most, turns in ((9, 10 ** 30), (BIG, 3), (BIG, BIG), (10 ** 129, 10 ** 129)):
            for turn in range(60):
                program = drawn_program(draw, draw.choice((1, 2, 3, 5, 8, 13, 60)), most, turns)
                lengths = [*LENGTHS, *ends_of(effect_of(program)), reach(program), reach(program) + 1]
                self.check_outcomes(program, lengths, left_by_doubling)

    def test_last_is_not_beyond_the_reach(self):
        draw = random.Random(13)
        for most, turns in ((5, 4), (BIG, BIG)):
            for turn in range(150):
                program = drawn_program(draw, draw.randint(0, 12), most, turns)
                self.assertTrue(effect_of(program).last <= reach(program))


class SameTest(EffectOfCase):
    def test_equal_effects_for_equal_outcomes_alone(self):
        by_outcomes, by_effect = {}, {}
        for program in small_programs(3):
            told = outcomes(program, *range(40))
            effect = effect_of(program)
            self.assertTrue(reach(program) < 40)
            self.assertEqual(by_outcomes.setdefault(told, effect), effect)
            self.assertEqual(by_effect.setdefault(parts(effect), told), told)
        self.assertEqual(len(by_outcomes), len(by_effect))
        self.assertTrue(all(one != other for one, other in itertools.combinations(by_outcomes.values(), 2)))

    def test_equal_neighbors(self):
        one = effect_of(Program.read("do a; do a; undo 3; redo 2; do b"))
        other = effect_of(Program.read("do a; undo 2; redo 1; do a; do b"))
        self.assertEqual(one, other)
        self.assertEqual(parts(one), (("a", "a", "b"), 0, ((0, 1, 0),)))

    def test_different_programs(self):
        self.assertNotEqual(effect_of(Program.read("undo 1; do x")), effect_of(Program.read("undo 2; do x")))
        self.assertEqual(effect_of(Program.read("undo 1; do x")), effect_of(Program.read("do y; undo 2; do x")))
        self.assertNotEqual(effect_of(Program.read(f"undo {BIG}; do x")), effect_of(Program.read("undo all; do x")))


class RepeatsTest(EffectOfCase):
    def place_after(self, steps, place, size):
        for step in steps:
            lowest, highest, shift = map_of(step, size)
            place = clamped(lowest, highest, place + shift)
        return place

    def test_steps_of_a_repeat_do_the_same(self):
        draw = random.Random(14)
        for turn in range(400):
            steps = tuple((draw.choice(("undo", "redo")), draw.choice((None, 1, 1, 2, 3, 4, 5, 8, 9, 13)))
                          for step in range(draw.randint(1, 6)))
            for times in (1, 2, 3, 4, 7):
                plain = steps_of_repeat(times, steps)
                self.assertTrue(len(plain) <= 2 * len(steps))
                for size in (0, 1, 2, 5, 12, 23):
                    for place in (0, size // 2, size):
                        past, future = one_by_one((("repeat", times, steps),), range(place), range(size - place))
                        self.assertEqual(self.place_after(plain, place, size), len(past), (steps, times, size, place))

    def test_long_repeats(self):
        steps = tuple((("undo", "redo")[at % 2], amount * BIG) for at, amount in enumerate(range(1, 60)))
        for turned in (steps, steps[::-1], steps[::2] + steps[1::2], steps[40:] + steps[:40]):
            program = Program(("repeat", BIG, turned))
            self.check_outcomes(program, [*LENGTHS, *ends_of(effect_of(program))], left_by_doubling)


class ErrorsTest(EffectOfCase):
    def test_no_program(self):
        for value in ANY_VALUES + (History(), Effect(), Program, "do a", (("do", "a"),)):
            for arguments, named in (((value,), {}), ((), {"program": value})):
                with self.subTest(value=value), self.assertRaises(NotAProgram) as caught:
                    effect_of(*arguments, **named)
                self.assertIs(caught.exception.value, value)

    def test_nothing_changes(self):
        program = Program.read("do a; undo 5; 3 times (redo 1, undo 2); redo 4; do b")
        commands = program.commands
        first = effect_of(program)
        self.assertEqual(effect_of(program), first)
        self.assertIs(program.commands, commands)
        self.assertEqual(str(program), "do a; undo 5; 3 times (redo 1, undo 2); redo 4; do b")
        self.assertEqual(first[3], outcome(program, 3))


if __name__ == "__main__":
    unittest.main()
