import ast
import pathlib
import random
import unittest

from undotables.bounds import bounds
from undotables.building import program_for
from undotables.checker import accepts
from undotables.comparing import difference
from undotables.effects import Effect, effect_of
from undotables.errors import UndoError
from undotables.histories import History
from undotables.observing import program_with
from undotables.outcomes import outcome
from undotables.programs import Program
import undotables.checker
from models import (BIG, bounds_one_by_one, drawn_effect, drawn_program, effect_by_outcomes, left_by_doubling,
                    left_one_by_one, made_of, reach, small_programs)
from test_observing import conflict_by_reasons, observed, otherwise, reasons_alone, reasons_together
from values import ANY_VALUES, EqualToAll

DO, UNDO = ("do", "a"), ("undo", 3)
DEEP = ((((((((((),),),),),),),),),)
STRANGE = (*ANY_VALUES, DEEP, [DEEP], {1: DEEP}, Effect(), Program(), History(), (None,), (EqualToAll(),), -1)


def is_program(value):
    return isinstance(value, tuple) and all(Program.is_command(command) for command in value)


def are_observations(value):
    if not isinstance(value, tuple):
        return False
    try:
        program_with(*value)
    except UndoError:
        return False
    return True


def is_true(claim, certificate):
    """What the checker has to say, for values made of tuples, lists, strings, integers, True, False and None."""
    if not isinstance(claim, tuple) or len(claim) < 2:
        return False
    kind, *parts = claim
    if kind in ("observed", "impossible"):
        if len(parts) != 1 or not are_observations(parts[0]):
            return False
        return (is_observed if kind == "observed" else is_impossible)(parts[0], certificate)
    if not is_program(parts[0]):
        return False
    program = Program(*parts[0])
    if kind == "effect":
        return repr((parts[1:], certificate)) == repr((list(parts_of(program)), None))
    if kind == "bounds":
        return repr((parts[1:], certificate)) == repr(([bounds(program)], None))
    if kind not in ("same", "different") or len(parts) != 2 or not is_program(parts[1]):
        return False
    other = Program(*parts[1])
    if kind == "same":
        return repr(certificate) == repr(parts_of(program)) == repr(parts_of(other))
    if type(certificate) is not int or certificate < 0:
        return False
    return left_by_doubling(program, certificate)[0] != left_by_doubling(other, certificate)[0]


def is_observed(observations, certificate):
    if not is_program(certificate):
        return False
    return all(left_by_doubling(Program(*certificate), one[0])[0] == one[1:] for one in observations)


def is_impossible(observations, certificate):
    alone = [(at,) for at, one in enumerate(observations) if reasons_alone(one)]
    together = [(at, at + 1) for at in range(len(observations) - 1)
                if reasons_together(observations[at], observations[at + 1])]
    return repr(certificate) in [repr(told) for told in alone + together]


def parts_of(program):
    effect = effect_of(program)
    return effect.new_names, effect.undone_count, effect.changes


def other_value(random, value):
    """The value with one part otherwise."""
    if isinstance(value, tuple) and value and random.random() < 0.8:
        at = random.randrange(len(value))
        return value[:at] + (other_value(random, value[at]),) + value[at + 1:]
    ways = [None, 0, "a", (), list(value) if isinstance(value, tuple) else [value], (value,)]
    if isinstance(value, int) and not isinstance(value, bool):
        ways = [value + 1, value - 1, value + 1, value - 1, -value, bool(value), None, str(value), value + 10 ** 20]
    elif isinstance(value, str):
        ways = ["a", "b", "old", "undone", "undo", "redo", "same", "different", "effect", "bounds", "A", 0]
    elif isinstance(value, tuple) and value:
        at = random.randrange(len(value))
        ways = [list(value), value[::-1], value[:at] + value[at + 1:], value[:at] + value[at:at + 1] + value[at:],
                value[:at], value + (0,), value[at]]
    elif value is None:
        ways = [1, 2, 5, (), False, 0, "all"]
    return random.choice(ways)


class CheckerCase(unittest.TestCase):
    def check(self, expected, claim, certificate):
        told = accepts(claim, certificate)
        self.assertIs(told, expected, (claim, certificate))
        self.assertIs(accepts(claim=claim, certificate=certificate), expected)

    def check_others(self, random, many, claim, certificate):
        """Claims and certificates with one part put otherwise, or two."""
        for turn in range(many):
            both = other_value(random, (claim, certificate))
            if random.random() < 0.2:
                both = other_value(random, both)
            if isinstance(both, tuple) and len(both) == 2:
                self.check(is_true(*both), *both)


class EffectTest(CheckerCase):
    def test_true_claims(self):
        for program in small_programs(3):
            self.check(True, ("effect", program.commands, *effect_by_outcomes(program)), None)

    def test_other_claims(self):
        draw = random.Random(71)
        for turn in range(400):
            program = drawn_program(draw, draw.randint(0, 6), 4, 3)
            claim = ("effect", program.commands, *effect_by_outcomes(program))
            self.check(True, claim, None)
            self.check_others(draw, 12, claim, None)
            other = made_of(draw, program, drawn_program(draw, 3, 4, 3))
            self.check(effect_by_outcomes(other) == claim[2:], ("effect", other.commands, *claim[2:]), None)

    def test_nearly_true_effects(self):
        draw = random.Random(72)
        for turn in range(500):
            most = draw.choice((3, 12, BIG))
            effect = drawn_effect(draw, draw.randint(0, 5), 5, most)
            program = program_for(effect)
            parts = (effect.new_names, effect.undone_count, effect.changes)
            self.check(True, ("effect", program.commands, *parts), None)
            for change in range(8):
                other = other_value(draw, parts)
                if isinstance(other, tuple):
                    self.check(repr(other) == repr(parts), ("effect", program.commands, *other), None)

    def test_changes_in_other_forms(self):
        three = Program.read("undo 4; do a; do a; undo 7; redo 6; do b; do a; do c").commands
        told = (("a", "a", "b", "a", "c"), 0, ((0, 4, "old"), (8, 1, 0)))
        self.check(True, ("effect", three, *told), None)
        for changes in (((0, 4, "old"), (8, 1, 1)), ((0, 2, "old"), (2, 2, "old"), (8, 1, 0)), ((0, 4, "old"),),
                        ((8, 1, 0), (0, 4, "old")), ((0, 4, "old"), (8, 1, 0), (9, 1, 0)),
                        ((0, 4, "old"), (8, 1, 0), ()),
                        ((0, 4, "old"), (8, 1, 0), (20, None, "old")), ((0, 4, "old"), (8, None, 0)),
                        ((0, 4, "old"), (8, 2, 0)), ((0, 4, "old"), (8, 1, 4)), ((0, 4, "old"), (8, 1, -5)),
                        ((0, 4, "old"), (8, 1, 3)), ((0, 4, "old"), (8, 1, 2)), ((0, 4, "old"), (8, 1, "item")),
                        ((0, 4, "old"), (8, 1, "0")), ((0, 4, "old"), (8, True, 0)), ((0, 4, "old"), (8, 1, False)),
                        ((False, 4, "old"), (8, 1, 0)), ([0, 4, "old"], (8, 1, 0)), [(0, 4, "old"), (8, 1, 0)],
                        ((0, 4, "old", 0), (8, 1, 0)), ((0, 4, "keep"), (8, 1, 0)), ((0, 0, "old"), (8, 1, 0)),
                        ((0, 4, "old"), (4, 1, "keep"), (8, 1, 0)), ((0, None, "old"), (8, 1, 0)), None, ()):
            self.check(False, ("effect", three, told[0], told[1], changes), None)
        self.check(False, ("effect", three, list(told[0]), *told[1:]), None)
        self.check(False, ("effect", three, told[0], False, told[2]), None)
        self.check(False, ("effect", (), (), 0, ((0, 1, "old"),)), None)
        self.check(True, ("effect", (UNDO,), (), 0, ((0, 3, "undone"),)), None)
        self.check(False, ("effect", (UNDO,), (), 0, ((0, 1, "undone"), (1, 2, "undone"))), None)

    def test_changes_that_change_nothing(self):
        for changes in (((5, 0, 0),), ((5, 0, "old"),), ((5, 0, "undone"),), ((0, 0, "undone"),), ((-1, 1, "undone"),)):
            self.check(False, ("effect", (DO, ("do", "b")), ("a", "b"), 0, changes), None)

    def test_changes_in_another_sequence(self):
        for changes in (((7, 1, "undone"), (8, 1, 0)), ((7, 2, "old"), (9, 1, 0)), ((3, 1, "undone"), (4, 1, "old")),
                        ((3, 1, 0), (5, 1, 0)), ((3, 2, "undone"), (6, 2, "undone"))):
            effect = Effect(("a", "b", "c"), 0, changes)
            commands = program_for(effect).commands
            self.check(True, ("effect", commands, effect.new_names, 0, changes), None)
            self.check(False, ("effect", commands, effect.new_names, 0, changes[::-1]), None)
            self.check(False, ("effect", commands, effect.new_names, 0, changes + changes[-1:]), None)

    def test_far_behind_the_changes(self):
        many = ("repeat", BIG, (("undo", BIG),))
        self.check(True, ("effect", (many,), (), 0, ((0, BIG * BIG, "undone"),)), None)
        self.check(False, ("effect", (many,), (), 0, ((0, None, "undone"),)), None)
        self.check(True, ("effect", (many, DO), ("a",), 0, ((0, BIG * BIG, "old"),)), None)
        self.check(False, ("effect", (many, DO), ("a",), 0, ((0, None, "old"),)), None)
        back = ("repeat", BIG, (("redo", BIG),))
        self.check(True, ("effect", (("undo", None), back), (), 0, ((BIG * BIG, None, "undone"),)), None)
        self.check(False, ("effect", (("undo", None), back), (), 0, ()), None)
        self.check(True, ("bounds", (DO, ("undo", None), back, DO), (BIG * BIG, None)), None)
        self.check(False, ("bounds", (DO, ("undo", None), back, DO), (None, None)), None)

    def test_great_claims(self):
        draw = random.Random(73)
        for most, turns in ((9, 10 ** 30), (BIG, 3), (BIG, BIG)):
            for turn in range(60):
                program = drawn_program(draw, draw.choice((2, 5, 20, 60)), most, turns)
                claim = ("effect", program.commands, *parts_of(program))
                self.check(True, claim, None)
                self.check_others(draw, 5, claim, None)

    def test_endless_words(self):
        commands = (("undo", None), ("redo", 3), ("do", "x"))
        self.check(True, ("effect", commands, ("x",), 0, ((3, None, "old"),)), None)
        for changes in (((3, 5, "old"),), ((3, 10 ** 30, "old"),), ((4, None, "old"),), ((2, None, "old"),),
                        ((3, None, "undone"),), ((3, 1, "undone"), (4, None, "old")), ()):
            self.check(False, ("effect", commands, ("x",), 0, changes), None)
        self.check(False, ("effect", (("undo", 10 ** 30),), (), 0, ((0, None, "undone"),)), None)
        self.check(False, ("effect", (("undo", None),), (), 0, ((0, 10 ** 30, "undone"),)), None)


class ComparisonTest(CheckerCase):
    def test_same(self):
        draw = random.Random(74)
        for turn in range(400):
            program = drawn_program(draw, draw.randint(0, 6), 4, 3)
            other = made_of(draw, program, drawn_program(draw, 3, 4, 3))
            told, other_told = effect_by_outcomes(program), effect_by_outcomes(other)
            for one, two in ((program, other), (other, program)):
                for certificate in (told, other_told):
                    claim = ("same", one.commands, two.commands)
                    self.check(told == other_told, claim, certificate)
            self.check(True, ("same", program.commands, program.commands), told)
            self.check_others(draw, 8, ("same", program.commands, program.commands), told)

    def test_different_for_each_length_up_to_the_reach(self):
        draw = random.Random(75)
        for turn in range(200):
            program = drawn_program(draw, draw.randint(0, 6), 4, 3)
            other = made_of(draw, program, drawn_program(draw, 3, 4, 3))
            for length in range(max(reach(program), reach(other)) + 3):
                expected = left_one_by_one(program, length)[0] != left_one_by_one(other, length)[0]
                self.check(expected, ("different", program.commands, other.commands), length)
            self.check(False, ("different", program.commands, program.commands), 0)

    def test_great_lengths(self):
        one, two = (("undo", BIG), ("do", "x")), (("undo", BIG + 1), ("do", "x"))
        for length, expected in ((BIG, False), (BIG + 1, True), (10 ** 129, True), (0, False)):
            self.check(expected, ("different", one, two), length)
            self.check(expected, ("different", two, one), length)
        draw = random.Random(76)
        for turn in range(100):
            program = drawn_program(draw, draw.choice((3, 10, 40)), BIG, BIG)
            other = made_of(draw, program, drawn_program(draw, 3, BIG, BIG))
            least = difference(program, other)
            if least is not None:
                self.check(True, ("different", program.commands, other.commands), least)
                self.check_others(draw, 6, ("different", program.commands, other.commands), least)

    def test_certificates_that_are_no_lengths(self):
        claim = ("different", (DO,), ())
        self.check(True, claim, 0)
        for value in (True, False, None, -1, "0", (0,), [0], (), EqualToAll()):
            self.check(False, claim, value)


class BoundsTest(CheckerCase):
    def test_true_claims(self):
        for program in small_programs(3):
            self.check(True, ("bounds", program.commands, bounds_one_by_one(program)), None)

    def test_other_claims(self):
        draw = random.Random(77)
        for turn in range(400):
            program = program_for(drawn_effect(draw, draw.randint(0, 4), 5, 3)) + drawn_program(draw, 2, 4, 3)
            claim = ("bounds", program.commands, bounds_one_by_one(program))
            self.check(True, claim, None)
            self.check_others(draw, 10, claim, None)

    def test_each_bound_otherwise(self):
        commands = Program.read("do a; undo 5; redo 4; do b; undo 1; do c").commands
        self.check(True, ("bounds", commands, (4, 0, None)), None)
        for told in ((3, 0, None), (5, 0, None), (None, 0, None), (0, 0, None), (4, 1, None), (4, None, None),
                     (4, 0, 0), (4, 0, 10 ** 30), (4, 0), (4, 0, None, None), (), [4, 0, None], (4, False, None),
                     (4, 0, False), (4, -1, None), ("4", 0, None), None, 4):
            self.check(False, ("bounds", commands, told), None)
        self.check(False, ("bounds", commands, (4, 0, None)), ())

    def test_great_claims(self):
        draw = random.Random(78)
        for turn in range(100):
            program = program_for(drawn_effect(draw, draw.randint(0, 20), 20, BIG)) + drawn_program(draw, 5, BIG, BIG)
            claim = ("bounds", program.commands, bounds(program))
            self.check(True, claim, None)
            self.check_others(draw, 4, claim, None)


class ObservationsTest(CheckerCase):
    def test_observed_with_any_commands(self):
        draw = random.Random(79)
        for turn in range(400):
            program = drawn_program(draw, draw.randint(0, 6), 4, 3)
            told = observed(program, sorted(draw.sample(range(12), draw.randint(0, 5))))
            self.check(True, ("observed", told), program.commands)
            self.check_others(draw, 8, ("observed", told), program.commands)
            other = made_of(draw, program, drawn_program(draw, 3, 4, 3))
            expected = all(left_one_by_one(other, one[0])[0] == one[1:] for one in told)
            self.check(expected, ("observed", told), other.commands)

    def test_great_observations(self):
        draw = random.Random(80)
        for turn in range(60):
            program = drawn_program(draw, draw.choice((3, 10, 40)), BIG, BIG)
            told = observed(program, (0, 5, 10 ** 30, BIG, BIG * BIG))
            self.check(True, ("observed", told), program.commands)
            self.check_others(draw, 6, ("observed", told), program.commands)

    def test_without_observations(self):
        self.check(True, ("observed", ()), ())
        self.check(True, ("observed", ()), (DO, UNDO))
        self.check(False, ("observed", ()), None)
        self.check(False, ("observed", ()), [])
        self.check(False, ("observed", ()), (None,))
        self.check(False, ("impossible", ()), ())
        self.check(False, ("impossible", ()), (0,))
        self.check(False, ("impossible", ()), None)

    def test_impossible_with_each_conflict(self):
        draw = random.Random(81)
        found = []
        for turn in range(800):
            program = program_for(drawn_effect(draw, draw.randint(0, 3), 4, 4))
            told = list(observed(program, sorted(draw.sample(range(9), draw.randint(1, 5)))))
            for change in range(draw.randint(0, 4)):
                at = draw.randrange(len(told))
                told[at] = otherwise(draw, told[at])
            claim = ("impossible", tuple(told))
            indexes = range(-1, len(told) + 1)
            for certificate in [(one,) for one in indexes] + [(one, two) for one in indexes for two in indexes]:
                expected = is_impossible(claim[1], certificate)
                self.check(expected, claim, certificate)
                found.append((len(certificate), expected))
            least = conflict_by_reasons(claim[1])
            if least is not None:
                self.check(True, claim, least)
                self.check_others(draw, 8, claim, least)
        self.assertTrue(min(found.count((many, True)) for many in (1, 2)) > 200)

    def test_certificates_that_are_no_conflicts(self):
        claim = ("impossible", ((0, 1, ("a",), 0), (3, 2, ("b",), 0)))
        self.check(True, claim, (0,))
        self.check(True, claim, (0, 1))
        for value in ((False,), (False, 1), (0, True), [0], [0, 1], (1, 0), (0, 0), (1,), (2,), (-2,), (-2, -1), (1, 2),
                      (0, 1, 2), (), None, 0, "0", ("0",), ((0,),), (0, None), (EqualToAll(),)):
            self.check(False, claim, value)

    def test_wrong_observations(self):
        for wrong in ((3, 2, ("b",)), [3, 2, ("b",), 0], (3, 2, ["b"], 0), (True, 1, ("b",), 0), (3, True, ("b",), 0),
                      (3, 2, ("b",), False), (-1, 0, ("b",), 0), (3, 2, ("B",), 0), (0, 0, ("b",), 0), None, 3, (),
                      (3, 2, ("b",), 0, 0), (3, 2, "b", 0), (3, -1, ("b",), 0), (3, 2, ("b",), -1), (1, 2, ("b",), 0)):
            observations = ((1, 2, ("b",), 0), wrong)
            self.check(False, ("impossible", observations), (0,))
            self.check(False, ("observed", observations), (DO,))
        self.check(True, ("impossible", ((1, 2, ("b",), 0), (3, 2, ("b",), 0))), (0,))


class AnyValuesTest(CheckerCase):
    claims = (
        (("effect", (DO, UNDO), ("a",), 1, ((0, 2, "undone"),)), None),
        (("same", (DO, UNDO), (DO, ("undo", 1), ("undo", 2))), (("a",), 1, ((0, 2, "undone"),))),
        (("different", (DO, UNDO), (DO, ("undo", 2))), 2),
        (("bounds", (DO, UNDO, ("redo", 2), DO), (2, None)), None),
        (("observed", ((1, 1, ("a",), 2),)), (DO, UNDO)),
        (("impossible", ((1, 1, ("a",), 1), (2, 2, ("b",), 1))), (0, 1)),
    )

    def test_they_are_true(self):
        for claim, certificate in self.claims:
            self.check(True, claim, certificate)

    def test_any_value_in_place_of_each_part(self):
        for claim, certificate in self.claims:
            for value in STRANGE:
                self.check(False, value, certificate)
                if value is not None or certificate is not None:
                    great = claim[0] == "different" and type(value) is int and value > 2
                    self.check(great or self.is_same(value, certificate), claim, value)
                for at in range(len(claim)):
                    other = claim[:at] + (value,) + claim[at + 1:]
                    if isinstance(value, EqualToAll) or repr(value) != repr(claim[at]):
                        self.check(at > 0 and self.is_other_truth(claim, at, value), other, certificate)
                self.check(False, claim + (value,), certificate)
                self.check(False, (value,) + claim, certificate)
            for many in range(len(claim)):
                self.check(False, claim[:many], certificate)
            self.check(False, list(claim), certificate)
            self.check(False, [claim], certificate)
            self.check(False, claim[0], certificate)

    def is_same(self, value, certificate):
        return not isinstance(value, EqualToAll) and repr(value) == repr(certificate)

    def is_other_truth(self, claim, at, value):
        """Other values with which a claim stays true: nothing is observed of any program, and differs from others."""
        return claim[0] in ("observed", "different") and repr(value) == "()"

    def test_parts_of_parts(self):
        draw = random.Random(82)
        for claim, certificate in self.claims:
            self.check_others(draw, 600, claim, certificate)

    def test_kinds_exchanged(self):
        kinds = [claim[0] for claim, certificate in self.claims]
        for claim, certificate in self.claims:
            for kind in (*kinds, "Effect", "effect ", "", "equal", b"effect", ("effect",), None):
                if kind != claim[0]:
                    self.check(False, (kind, *claim[1:]), certificate)

    def test_nothing_changes(self):
        for claim, certificate in self.claims:
            before = repr((claim, certificate))
            value = [claim, [certificate], {"a": claim}]
            accepts(value, value)
            accepts(claim, value)
            self.check(True, claim, certificate)
            self.assertEqual(repr((claim, certificate)), before)


class CommandsTest(CheckerCase):
    def test_wrong_commands(self):
        for wrong in (["do", "a"], ("do", "A"), ("do",), ("do", "a", "b"), ("undo", 0), ("undo", True), ("undo",),
                      ("redo", "1"), ("repeat", 0, (UNDO,)), ("repeat", True, (UNDO,)), ("repeat", 2, ()),
                      ("repeat", 2, [UNDO]), ("repeat", 2, (DO,)), ("repeat", 2, (("repeat", 2, (UNDO,)),)),
                      ("repeat", 2), ("repeat", 2, UNDO), ("repeat", None, (UNDO,)), None, 1, "do a", (), (DO,),
                      ("go", 1), (1, "do"), (EqualToAll(), 1), (EqualToAll(), "a"), (EqualToAll(), 2, (UNDO,)),
                      ("do", EqualToAll()), ("undo", EqualToAll()), ("repeat", 2, ((EqualToAll(), 1),))):
            commands = (DO, wrong)
            self.check(False, ("effect", commands, ("a",), 0, ()), None)
            self.check(False, ("same", commands, (DO,)), (("a",), 0, ()))
            self.check(False, ("same", (DO,), commands), (("a",), 0, ()))
            self.check(False, ("different", commands, ()), 0)
            self.check(False, ("different", (), commands), 0)
            self.check(False, ("bounds", commands, (None,)), None)
            self.check(False, ("observed", ((0, 0, ("a",), 0),)), commands)
            self.check(False, ("observed", ()), commands)

    def test_repeats(self):
        draw = random.Random(83)
        for turn in range(300):
            program = drawn_program(draw, draw.randint(1, 5), 6, draw.choice((3, 10 ** 30)))
            for length in (0, 1, 2, 5, 9, 23):
                told = (length, *left_by_doubling(program, length)[0])
                self.check(True, ("observed", (told,)), program.commands)
                self.assertEqual(told[1:], outcome(program, length))

    def test_only_certain_modules_are_imported(self):
        tree = ast.parse(pathlib.Path(undotables.checker.__file__).read_text("ascii"))
        told = [node.module for node in ast.walk(tree) if isinstance(node, ast.ImportFrom)]
        self.assertEqual([name for name in told if name not in ("undotables.errors", "undotables.histories")], [])
        self.assertEqual([node for node in ast.walk(tree) if isinstance(node, ast.Import)], [])


if __name__ == "__main__":
    unittest.main()
