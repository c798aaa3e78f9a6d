import random
import unittest

from undotables.building import program_for
from undotables.effects import Effect, effect_of
from undotables.errors import NotAnEffect
from undotables.histories import History
from undotables.outcomes import outcome, word
from undotables.programs import Program
from models import BIG, drawn_effect, firsts, left_by_doubling, left_one_by_one, small_programs
from values import ANY_VALUES, letters


class BuildingCase(unittest.TestCase):
    def check_program(self, effect):
        program = program_for(effect)
        self.assertIs(type(program), Program)
        told = effect_of(program)
        self.assertEqual((told.new_names, told.undone_count, told.changes),
                         (effect.new_names, effect.undone_count, effect.changes), str(program))
        self.assertTrue(told == effect)
        self.assertEqual(program_for(effect), program)
        return program


class ProgramForTest(BuildingCase):
    def test_without_changes(self):
        self.assertEqual(outcome(self.check_program(Effect()), 3), (3, (), 0))
        for undone in range(4):
            self.check_program(Effect(("a", "a", "b"), undone))

    def test_without_names(self):
        self.check_program(Effect((), 0, ((0, 1, "undone"),)))
        self.check_program(Effect((), 0, ((0, None, "undone"),)))
        self.check_program(Effect((), 0, ((3, None, "undone"),)))
        self.check_program(Effect((), 0, ((0, 3, "undone"), (5, 2, "undone"), (BIG, BIG, "undone"))))

    def test_runs(self):
        self.check_program(Effect(("a",), 0, ((0, 3, "old"), (3, 2, "undone"), (6, 1, "old"))))
        self.check_program(Effect(("a",), 1, ((0, 3, "undone"), (3, 2, "old"), (6, 1, "undone"))))
        self.check_program(Effect(("a", "b"), 1, ((0, 2, "old"), (2, 1, 0), (7, None, "undone"))))
        self.check_program(Effect(("a", "b"), 1, ((0, 2, "undone"), (2, 1, 0), (7, None, "old"))))
        self.check_program(Effect(("a",), 0, ((0, None, "old"),)))
        self.check_program(Effect(("a",), 1, ((BIG, None, "undone"),)))

    def test_losses(self):
        self.check_program(Effect(("a", "b", "c"), 0, ((0, 1, 0), (1, 1, 0))))
        self.check_program(Effect(("a", "b", "c"), 3, ((0, 1, 1), (1, 1, 0))))
        self.check_program(Effect(("a", "b", "c", "d"), 2, ((5, 1, 1), (7, 1, 1), (BIG, 1, 0))))
        self.check_program(Effect(("a", "b"), 0, ((10 ** 129, 1, 0),)))

    def test_equal_neighbors(self):
        self.check_program(Effect(("a", "a"), 1, ((2, 1, 0),)))
        self.check_program(Effect(("a", "a", "a", "a"), 2, ((2, 1, 0), (3, 1, 0), (9, 1, 0))))
        self.check_program(Effect(("b", "a", "a", "b", "b"), 2, ((2, 1, 1), (3, 1, 2), (9, 1, 0))))
        self.check_program(Effect(("a", "b", "a", "b"), 0, ((2, 1, 1), (3, 1, 0), (9, 1, 0))))

    def test_effects_of_small_programs(self):
        for program in small_programs(3):
            self.check_program(effect_of(program))

    def test_drawn_effects(self):
        draw = random.Random(15)
        for turn in range(300):
            effect = drawn_effect(draw, draw.randint(0, 7), draw.randint(0, 9), 5)
            program = self.check_program(effect)
            for length in range(0, 30, 2):
                self.assertEqual(left_one_by_one(program, length)[0], effect[length])
                self.assertEqual(outcome(program, length), effect[length])
                self.assertEqual(word(program, length), effect.word(length))

    def test_great_effects(self):
        draw = random.Random(16)
        for most in (3, 10 ** 30, BIG, 10 ** 129):
            for turn in range(25):
                effect = drawn_effect(draw, draw.choice((1, 20, 60)), draw.choice((1, 20, 60)), most)
                program = self.check_program(effect)
                for length, times, what in effect.changes:
                    for near in (length, length + (times or 0), length + (times or 0) + 1):
                        self.assertEqual(left_by_doubling(program, near)[0], effect[near])

    def test_sixty_items_and_changes(self):
        names = letters(60)
        kept, losses = list(names), []
        for at in range(59):
            index = firsts(kept)[at * 7 % len(firsts(kept))]
            losses.append((at * BIG, 1, index))
            del kept[index]
        self.check_program(Effect(names, 33, (*losses, (60 * BIG, None, "old"))))
        runs = tuple((at * 3, 1 + at % 3, ("old", "undone")[at // 2 % 2]) for at in range(0, 120, 2))
        self.check_program(Effect(names, 60, runs))
        self.check_program(Effect(("a",) * 60, 0, tuple((at, 1, 0) for at in range(59))))
        self.check_program(Effect((), 0, tuple((at * BIG, BIG - 1, "undone") for at in range(60))))

    def test_by_name(self):
        effect = Effect(("a", "b"), 1, ((2, 1, 0),))
        self.assertEqual(effect_of(program_for(effect=effect)), effect)


class ErrorsTest(BuildingCase):
    def test_no_effect(self):
        effect = Effect(("a", "b"), 1, ((2, 1, 0),))
        before = program_for(effect)
        for value in ANY_VALUES + (Program(), History(), Effect, (("a", "b"), 1, ((2, 1, 0),)), [effect]):
            for arguments, named in (((value,), {}), ((), {"effect": value})):
                with self.subTest(value=value), self.assertRaises(NotAnEffect) as caught:
                    program_for(*arguments, **named)
                self.assertIs(caught.exception.value, value)
        self.assertEqual(program_for(effect), before)
        self.assertEqual(effect, Effect(("a", "b"), 1, ((2, 1, 0),)))


if __name__ == "__main__":
    unittest.main()
