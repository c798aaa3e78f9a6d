import random
import unittest

from undotables.effects import Effect, effect_of
from undotables.errors import InvalidChanges, InvalidCount, InvalidLength, InvalidNames, NotAProgram
from undotables.histories import History
from undotables.outcomes import outcome
from undotables.programs import Program
from models import BIG, drawn_effect, drawn_program
from values import ANY_VALUES, LENGTHS, NAMES, NO_INTEGERS_FROM_1, NO_LENGTHS, NO_NAMES, NO_TUPLES, EqualToAll, letters

AAB = ("a", "a", "b")
CHANGES = ((0, 2, "old"), (2, 1, 0), (3, 1, "undone"), (7, None, "undone"))
EFFECT = Effect(AAB, 1, CHANGES)

VALID_CHANGES = (
    (AAB, ()),
    (AAB, ((0, 1, "old"),)),
    (AAB, ((0, None, "old"),)),
    (AAB, ((BIG, BIG, "undone"), (2 * BIG, None, "old"))),
    (AAB, ((0, 1, "old"), (1, 1, "undone"), (2, 1, "old"))),
    (AAB, ((0, 3, "old"), (4, 3, "old"), (8, 1, "old"))),
    (AAB, ((0, 3, "old"), (3, 1, 0), (4, 3, "old"))),
    (AAB, ((0, 1, 0), (1, 1, 0))),
    (AAB, ((0, 1, 0), (2, 1, 0), (3, None, "undone"))),
    (("b", "a", "a"), ((0, 1, 0), (1, 1, 0))),
    (("b", "a", "a"), ((5, 1, 1), (10 ** 130, 1, 0))),
    (("a", "b", "a", "c"), ((1, 1, 1), (2, 1, 0))),
    (("a", "b", "a", "c"), ((1, 1, 2), (2, 1, 1), (3, 1, 0))),
    ((), ((0, 1, "undone"),)),
    ((), ((3, 4, "undone"), (8, None, "undone"))),
    (("a",), ((0, None, "old"),)),
)
# New names, changes, and the index of the first triple that is wrong.
INVALID_CHANGES = (
    (AAB, ((2, 1, "old"), (2, 1, "undone")), 1),
    (AAB, ((2, 1, "old"), (1, 1, "undone")), 1),
    (AAB, ((2, 1, 0), (2, 1, 0)), 1),
    (AAB, ((2, 1, 0), (0, 1, 0)), 1),
    (AAB, ((2, 1, 0), (2, 1, "old")), 1),
    (AAB, ((2, 1, "old"), (2, 1, 0)), 1),
    (AAB, ((2, 5, "old"), (6, 1, "undone")), 1),
    (AAB, ((2, 5, "old"), (6, 1, 0)), 1),
    (AAB, ((2, 5, "old"), (3, 1, "old"), (9, 1, "old")), 1),
    (AAB, ((2, 5, "old"), (7, 1, "old")), 1),
    (AAB, ((2, 5, "undone"), (7, None, "undone")), 1),
    (AAB, ((2, BIG, "undone"), (BIG + 2, 1, "undone")), 1),
    (AAB, ((1, 1, "undone"), (2, 5, "old"), (7, 2, "old")), 2),
    (AAB, ((2, None, "old"), (7, 1, "undone")), 1),
    (AAB, ((2, None, "old"), (7, None, "undone")), 1),
    (AAB, ((2, None, "undone"), (7, 1, 0)), 1),
    (AAB, ((2, None, "undone"), (7, 1, 0), (9, 1, 0)), 1),
    (AAB, ((2, 0, "old"),), 0),
    (AAB, ((2, 0, "undone"),), 0),
    (AAB, ((2, 0, 0),), 0),
    (AAB, ((2, 2, 0),), 0),
    (AAB, ((2, None, 0),), 0),
    (AAB, ((2, 1, 1),), 0),
    (AAB, ((2, 1, 2),), 0),
    (AAB, ((2, 1, 3),), 0),
    (AAB, ((2, 1, -1),), 0),
    (AAB, ((2, 1, BIG),), 0),
    (AAB, ((2, 1, 0), (4, 1, 1)), 1),
    (AAB, ((2, 1, 0), (4, 1, 0), (5, 1, 0)), 2),
    (("b", "a", "a"), ((0, 1, 2),), 0),
    (("a", "b", "a", "c"), ((1, 1, 1), (2, 1, 1)), 1),
    (("a", "a", "a", "c"), ((1, 1, 0), (2, 1, 1)), 1),
    (("a",), ((0, 1, 0),), 0),
    (("a", "a"), ((0, 1, 1),), 0),
    ((), ((0, 1, "old"),), 0),
    ((), ((0, None, "old"),), 0),
    ((), ((0, 1, 0),), 0),
    ((), ((0, 1, "undone"), (1, 1, "old")), 1),
    (AAB, ((2, 1, "keep"),), 0),
    (AAB, ((2, 1, "item"),), 0),
    (AAB, ((2, 1, "Old"),), 0),
    (AAB, ((2, 1, "old "),), 0),
    (AAB, ((2, 1, ""),), 0),
    (AAB, ((2, 1, "0"),), 0),
    (AAB, ((2, 1),), 0),
    (AAB, ((2, 1, "old", 1),), 0),
    (AAB, ((),), 0),
    (AAB, ((2, 1, "old"), ()), 1),
    (AAB, (2, 1, "old"), 0),
    (AAB, ([2, 1, "old"],), 0),
    (AAB, ((2, 1, 0), [4, 1, 0]), 1),
    (AAB, ((4, "old", 1),), 0),
    (AAB, (("old", 1, 4),), 0),
    (AAB, ((-1, 2, "old"),), 0),
    (AAB, ((-1, 2, "old"), (-7, 1, 0)), 0),
)


class EffectCase(unittest.TestCase):
    def check_parts(self, effect, *parts):
        self.assertIsInstance(effect, Effect)
        self.assertEqual((effect.new_names, effect.undone_count, effect.changes), parts)
        self.assertEqual([type(effect.new_names), type(effect.undone_count), type(effect.changes)], [tuple, int, tuple])

    def check_error(self, kind, attribute, value, make, *arguments, **named):
        with self.subTest(value=value, arguments=arguments), self.assertRaises(kind) as caught:
            make(*arguments, **named)
        self.assertIs(type(caught.exception), kind)
        self.assertIs(getattr(caught.exception, attribute), value)


class MakingTest(EffectCase):
    def test_with_and_without_each_part(self):
        self.check_parts(Effect(), (), 0, ())
        self.check_parts(Effect(AAB), AAB, 0, ())
        self.check_parts(Effect(AAB, 3), AAB, 3, ())
        self.check_parts(Effect(AAB, 1, CHANGES), AAB, 1, CHANGES)
        self.check_parts(Effect(new_names=AAB), AAB, 0, ())
        self.check_parts(Effect(undone_count=0), (), 0, ())
        self.check_parts(Effect(changes=((2, None, "undone"),)), (), 0, ((2, None, "undone"),))
        self.check_parts(Effect(AAB, changes=CHANGES), AAB, 0, CHANGES)
        self.check_parts(Effect(changes=CHANGES, undone_count=2, new_names=AAB), AAB, 2, CHANGES)

    def test_attributes_are_set_on_the_object(self):
        self.assertEqual({"new_names": AAB, "undone_count": 1, "changes": CHANGES}.items() - vars(EFFECT).items(),
                         set())

    def test_every_name_is_an_item(self):
        self.check_parts(Effect(NAMES, len(NAMES)), NAMES, len(NAMES), ())

    def test_valid_changes(self):
        for names, changes in VALID_CHANGES:
            with self.subTest(names=names, changes=changes):
                for many in (0, len(names)):
                    self.check_parts(Effect(names, many, changes), names, many, changes)

    def test_long_effects(self):
        names = letters(70)
        losses = tuple((at * BIG, 1, 0) for at in range(69))
        self.check_parts(Effect(names, 70, losses), names, 70, losses)
        runs = tuple((at, 1, ("old", "undone")[at % 2]) for at in range(80))
        self.check_parts(Effect(names, 0, runs), names, 0, runs)

    def test_wrong_names(self):
        for value in NO_TUPLES:
            self.check_error(InvalidNames, "index", None, Effect, value)
            self.check_error(InvalidNames, "index", None, Effect, changes=1, undone_count=-1, new_names=value)
        for value in NO_NAMES:
            self.check_error(InvalidNames, "index", 0, Effect, (value,))
            self.check_error(InvalidNames, "index", 2, Effect, ("a", "b", value, "c", value), -1, None)

    def test_wrong_counts(self):
        for value in (None, -1, *[value for value in NO_INTEGERS_FROM_1 if value is False or type(value) is not int]):
            self.check_error(InvalidCount, "count", value, Effect, AAB, value)
            self.check_error(InvalidCount, "count", value, Effect, (), value, None)
            self.check_error(InvalidCount, "count", value, Effect, changes=[], undone_count=value)
        for names, count in (((), 1), (("a",), 2), (AAB, 4), (AAB, BIG), (AAB, -BIG)):
            self.check_error(InvalidCount, "count", count, Effect, names, count)
            self.check_error(InvalidCount, "count", count, Effect, names, count, [])

    def test_wrong_changes(self):
        for names, changes, index in INVALID_CHANGES:
            self.check_error(InvalidChanges, "index", index, Effect, names, 0, changes)
            self.check_error(InvalidChanges, "index", index, Effect, names, len(names), (*changes, None, (0, 1)))
            self.check_error(InvalidChanges, "index", index, Effect, changes=changes, new_names=names)

    def test_no_changes(self):
        for value in NO_TUPLES:
            self.check_error(InvalidChanges, "index", None, Effect, AAB, 0, value)
            self.check_error(InvalidChanges, "index", None, Effect, changes=value)

    def test_wrong_values_at_each_place(self):
        for value in ANY_VALUES:
            if not isinstance(value, tuple) or len(value) != 3:
                self.check_error(InvalidChanges, "index", 1, Effect, AAB, 0, ((2, 1, "old"), value))
        for value in NO_LENGTHS:
            self.check_error(InvalidChanges, "index", 0, Effect, AAB, 0, ((value, 1, "old"),))
            self.check_error(InvalidChanges, "index", 0, Effect, AAB, 0, ((value, 1, 0),))
            self.check_error(InvalidChanges, "index", 0, Effect, (), 0, ((value, 1, "undone"),))
            self.check_error(InvalidChanges, "index", 0, Effect, AAB, 0, ((2, 1, value),))
        for value in NO_INTEGERS_FROM_1:
            self.check_error(InvalidChanges, "index", 0, Effect, AAB, 0, ((2, value, "old"),))
            self.check_error(InvalidChanges, "index", 0, Effect, AAB, 0, ((2, value, "undone"),))
            self.check_error(InvalidChanges, "index", 0, Effect, AAB, 0, ((2, value, 0),))
        for value in NO_NAMES + NO_TUPLES:
            if type(value) is not int or value > 0:
                self.check_error(InvalidChanges, "index", 1, Effect, AAB, 0, ((1, 1, "old"), (2, 1, value)))

    def test_nothing_changes(self):
        names, triple, changes = ["a"], [0, 1, "old"], [(0, 1, "old")]
        for arguments in ((names,), (("a",), 0, changes), (("a",), 0, (triple,))):
            self.assertRaises(ValueError, Effect, *arguments)
        self.assertEqual((names, triple, changes), (["a"], [0, 1, "old"], [(0, 1, "old")]))
        self.check_parts(EFFECT, AAB, 1, CHANGES)


class QuestionsTest(EffectCase):
    def test_length_and_truth(self):
        self.assertEqual(len(Effect()), 0)
        self.assertIs(bool(Effect()), False)
        self.assertIs(bool(Effect(AAB, 2)), False)
        self.assertEqual(len(EFFECT), 4)
        self.assertIs(bool(EFFECT), True)
        self.assertIs(bool(Effect((), 0, ((0, None, "undone"),))), True)

    def test_repr(self):
        self.assertEqual(repr(Effect()), "Effect(0 names, 0 undone, 0 changes)")
        self.assertEqual(repr(EFFECT), "Effect(3 names, 1 undone, 4 changes)")
        self.assertEqual(repr(Effect(letters(60), 60)), "Effect(60 names, 60 undone, 0 changes)")

    def test_equality(self):
        self.assertTrue(EFFECT == Effect(AAB, 1, CHANGES))
        self.assertFalse(EFFECT != Effect(AAB, 1, CHANGES))
        self.assertTrue(Effect() == Effect((), 0, ()))
        for other in (Effect(), Effect(AAB, 0, CHANGES), Effect(AAB, 1, CHANGES[:-1]), Effect(AAB, 1),
                      Effect(("a", "a", "a"), 1, CHANGES), Effect(("a", *AAB), 1, CHANGES),
                      Effect(AAB, 1, (*CHANGES[:-1], (8, None, "undone"))),
                      Effect(AAB, 1, (*CHANGES[:-1], (7, 9, "undone"))),
                      Effect(AAB, 1, (*CHANGES[:-1], (7, None, "old")))):
            self.assertFalse(EFFECT == other)
            self.assertTrue(EFFECT != other)
            self.assertFalse(other == EFFECT)

    def test_never_equal_to_other_values(self):
        for effect in (Effect(), EFFECT):
            for value in (*ANY_VALUES, (AAB, 1, CHANGES), ((), 0, ()), CHANGES, repr(effect), History(), Program(),
                          Effect):
                if not isinstance(value, EqualToAll):
                    with self.subTest(value=value):
                        self.assertIs(effect == value, False)
                        self.assertIs(effect != value, True)

    def test_outcomes(self):
        self.assertEqual([EFFECT[length] for length in (0, 1, 2, 3, 4, 5, 7, 8, BIG)],
                         [(0, AAB, 1), (0, AAB, 1), (0, AAB, 1), (1, ("a", "b"), 1), (2, ("a", "b"), 2),
                          (3, ("a", "b"), 2), (5, ("a", "b"), 2), (6, ("a", "b"), 3), (BIG - 2, ("a", "b"), BIG - 5)])
        effect = Effect(("a", "b"), 0, ((BIG, BIG, "old"), (2 * BIG, 1, 0)))
        self.assertEqual([effect[length] for length in (BIG, BIG + 3, 2 * BIG, 2 * BIG + 1, 10 ** 130)],
                         [(BIG, ("a", "b"), 0), (BIG, ("a", "b"), 0), (BIG, ("a", "b"), 0), (BIG + 1, ("b",), 0),
                          (10 ** 130 - BIG, ("b",), 0)])
        self.assertEqual([Effect()[length] for length in LENGTHS], [(length, (), 0) for length in LENGTHS])
        self.assertEqual([Effect((), 0, ((2, None, "undone"),))[length] for length in (0, 2, 3, BIG)],
                         [(0, (), 0), (2, (), 0), (3, (), 1), (BIG, (), BIG - 2)])
        self.assertEqual([Effect(("a",), 1, ((2, None, "old"),))[length] for length in (0, 2, 3, BIG)],
                         [(0, ("a",), 1), (2, ("a",), 1), (2, ("a",), 1), (2, ("a",), 1)])

    def test_outcome_kinds(self):
        self.assertEqual([type(part) for part in EFFECT[4]], [int, tuple, int])
        self.assertIs(type(EFFECT[4]), tuple)

    def test_words(self):
        self.assertEqual([EFFECT.word(length) for length in (0, 1, 2, 3, 4, 6, 7, 8, BIG)],
                         ["old", "old", "item", "undone", "keep", "keep", "undone", "undone", "undone"])
        self.assertEqual([Effect().word(length=length) for length in LENGTHS], ["keep"] * len(LENGTHS))
        effect = Effect(("a",), 0, ((BIG, BIG, "old"),))
        self.assertEqual([effect.word(length) for length in (BIG - 1, BIG, 2 * BIG - 1, 2 * BIG)],
                         ["keep", "old", "old", "keep"])

    def test_outcomes_follow_the_words(self):
        draw = random.Random(6)
        for turn in range(60):
            effect = drawn_effect(draw, draw.randint(0, 6), draw.randint(0, 12), 5)
            for length in range(60):
                (kept, items, undone), (later, fewer, more) = effect[length], effect[length + 1]
                told = effect.word(length)
                self.assertEqual((later - kept, more - undone, len(items) - len(fewer)),
                                 {"keep": (1, 0, 0), "undone": (1, 1, 0), "old": (0, 0, 0), "item": (1, 0, 1)}[told])

    def test_last(self):
        self.assertEqual(Effect().last, 0)
        self.assertEqual(Effect(AAB, 3).last, 0)
        self.assertEqual(EFFECT.last, 7)
        self.assertEqual(Effect(AAB, 0, CHANGES[:2]).last, 3)
        self.assertEqual(Effect(AAB, 0, CHANGES[:1]).last, 2)
        self.assertEqual(Effect((), 0, ((0, None, "undone"),)).last, 0)
        self.assertEqual(Effect(AAB, 0, ((0, 4, "undone"), (4, None, "old"))).last, 4)
        self.assertEqual(Effect(AAB, 0, ((BIG, BIG, "undone"),)).last, 2 * BIG)

    def test_last_is_the_least(self):
        draw = random.Random(7)
        for turn in range(200):
            effect = drawn_effect(draw, draw.randint(0, 6), draw.randint(0, 8), 5)
            words = [effect.word(length) for length in range(effect.last + 9)]
            self.assertEqual(len(set(words[effect.last:])), 1)
            self.assertTrue(effect.last == 0 or words[effect.last - 1] != words[effect.last])

    def test_table(self):
        self.assertEqual(EFFECT.table(), "")
        self.assertEqual(EFFECT.table(4), "       4       2       2  a b")
        self.assertEqual(Effect().table(0), "       0       0       0  -")
        self.assertEqual(EFFECT.table(8, 0, 8), "       8       6       3  a b\n"
                                                "       0       0       1  a a b\n"
                                                "       8       6       3  a b")
        self.assertEqual(Effect((), 0, ((9, None, "undone"),)).table(12345678, 123456789),
                         "123456781234567812345669  -\n123456789123456789123456780  -")
        self.assertEqual(Effect(("abcdefgh",), 1).table(10 ** 30), f"{10 ** 30}{10 ** 30}       1  abcdefgh")
        self.assertEqual(Effect(("do", "b")).table(9999999, 99999999), " 9999999 9999999       0  do b\n"
                                                                       "9999999999999999       0  do b")

    def test_wrong_lengths(self):
        before = EFFECT[4], EFFECT.word(4), EFFECT.table(4)
        for value in NO_LENGTHS:
            for effect in (Effect(), EFFECT):
                self.check_error(InvalidLength, "length", value, effect.__getitem__, value)
                self.check_error(InvalidLength, "length", value, effect.word, value)
                self.check_error(InvalidLength, "length", value, effect.word, length=value)
                self.check_error(InvalidLength, "length", value, effect.table, value)
                self.check_error(InvalidLength, "length", value, effect.table, 3, 0, value, 1, -7)
        with self.assertRaises(InvalidLength):
            EFFECT[1:2]
        self.assertEqual((EFFECT[4], EFFECT.word(4), EFFECT.table(4)), before)

    def test_iterating(self):
        for effect in (Effect(), EFFECT):
            for turn in (iter, list, tuple):
                self.assertRaises(TypeError, turn, effect)
            with self.assertRaises(TypeError):
                for outcome_of_one in effect:
                    pass


class SumTest(EffectCase):
    def test_sum(self):
        first, second = Program.read("do a; undo 5"), Program.read("do b")
        result = effect_of(first) + second
        self.check_parts(result, ("b",), 0, ((0, 4, "old"),))
        self.assertEqual(effect_of(first), Effect(("a",), 1, ((0, 4, "undone"),)))
        self.assertEqual(effect_of(first) + Program(), effect_of(first))
        self.assertEqual(Effect() + first, effect_of(first))
        self.check_parts(Effect(AAB, 2, ((3, None, "undone"),)) + Program.read("redo all"), AAB, 0, ())
        self.check_parts(EFFECT + Program.read("do c"), ("a", "a", "c"), 0,
                         ((0, 2, "old"), (2, 1, 0), (3, 1, 0), (7, None, "old")))
        self.check_parts(EFFECT, AAB, 1, CHANGES)

    def test_sum_with_another_value(self):
        for value in (None, 1, "do a", (("do", "a"),), EFFECT, History()):
            with self.assertRaises(NotAProgram) as caught:
                EFFECT + value
            self.assertIs(caught.exception.value, value)

    def test_sum_is_the_effect_of_both(self):
        draw = random.Random(8)
        for most, turns in ((5, 4), (BIG, BIG)):
            for turn in range(150):
                one = drawn_program(draw, draw.randint(0, 8), most, turns)
                other = drawn_program(draw, draw.randint(0, 8), most, turns)
                result = effect_of(one) + other
                self.assertIs(type(result), Effect)
                self.assertEqual(result, effect_of(one + other))

    def test_sum_with_drawn_effects(self):
        draw = random.Random(9)
        for turn in range(150):
            effect = drawn_effect(draw, draw.randint(0, 6), draw.randint(0, 8), 5)
            program = drawn_program(draw, draw.randint(0, 6), 5, 4)
            result = effect + program
            for length in range(40):
                kept, items, undone = effect[length]
                line = tuple(["old"] * kept) + items
                place = len(line) - undone
                after = program(History(line[:place], line[place:]))
                expected = len([item for item in after.line if item == "old"])
                self.assertEqual(result[length], (expected, after.line[expected:], len(after.future)))


class OutcomesTest(EffectCase):
    def test_effect_of_a_program_has_its_outcomes(self):
        program = Program.read("do a; undo 5; redo 4; do b")
        for length in (0, 1, 2, 3, 4, 5, BIG):
            self.assertEqual(effect_of(program)[length], outcome(program, length))


if __name__ == "__main__":
    unittest.main()
