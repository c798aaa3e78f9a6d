import random
import unittest

from undotables.bounds import bounds
from undotables.building import program_for
from undotables.certificates import certify_bounds, certify_comparison, certify_effect, certify_observations
from undotables.checker import accepts
from undotables.comparing import difference, same
from undotables.effects import Effect, effect_of
from undotables.errors import InvalidObservations, NotAProgram
from undotables.histories import History
from undotables.observing import conflict
from undotables.outcomes import outcomes
from undotables.programs import Program
from models import BIG, drawn_effect, drawn_program, made_of, small_programs
from test_observing import GOOD, drawn_lengths, observed, otherwise
from values import ANY_VALUES

NO_PROGRAMS = ANY_VALUES + (History(), Effect(), Program, "do a", "nothing", (("do", "a"),), [Program()], (Program(),))


def parts_of(program):
    effect = effect_of(program)
    return effect.new_names, effect.undone_count, effect.changes


def drawn_pairs(random, many):
    for most, turns in ((4, 3), (9, 10 ** 30), (BIG, BIG)):
        for turn in range(many):
            one = drawn_program(random, random.choice((1, 3, 8, 30)), most, turns)
            if random.random() < 0.5:
                one = program_for(drawn_effect(random, random.randint(0, 6), 6, most))
            yield one, made_of(random, one, drawn_program(random, 3, most, turns))


class CertificatesCase(unittest.TestCase):
    def check(self, pair, claim, certificate):
        self.assertIs(type(pair), tuple)
        self.assertEqual(repr(pair), repr((claim, certificate)))
        self.assertIs(accepts(*pair), True)


class ProgramsTest(CertificatesCase):
    def test_ordinary_programs(self):
        program = Program.read("do a; undo 5; redo 4; do b")
        commands = (("do", "a"), ("undo", 5), ("redo", 4), ("do", "b"))
        self.check(certify_effect(program), ("effect", commands, ("a", "b"), 0, ((3, 1, 0),)), None)
        self.check(certify_bounds(program), ("bounds", commands, (4, None)), None)
        self.check(certify_comparison(program, program), ("same", commands, commands), (("a", "b"), 0, ((3, 1, 0),)))
        other = (("do", "a"), ("do", "b"))
        self.check(certify_comparison(program, Program(*other)), ("different", commands, other), 4)
        self.check(certify_effect(Program()), ("effect", (), (), 0, ()), None)
        self.check(certify_bounds(Program()), ("bounds", (), ()), None)
        self.check(certify_comparison(Program(), Program()), ("same", (), ()), ((), 0, ()))

    def test_by_name(self):
        one, two = Program.read("undo 1"), Program.read("undo 2")
        self.assertEqual(certify_effect(program=one), certify_effect(one))
        self.assertEqual(certify_bounds(program=one), certify_bounds(one))
        self.assertEqual(certify_comparison(other=two, program=one), certify_comparison(one, two))
        self.assertNotEqual(certify_comparison(other=one, program=two), certify_comparison(one, two))

    def test_small_programs(self):
        for program in small_programs(3):
            self.check(certify_effect(program), ("effect", program.commands, *parts_of(program)), None)
            self.check(certify_bounds(program), ("bounds", program.commands, bounds(program)), None)

    def test_drawn_programs(self):
        found = []
        for one, two in drawn_pairs(random.Random(91), 100):
            self.check(certify_effect(one), ("effect", one.commands, *parts_of(one)), None)
            self.check(certify_bounds(one), ("bounds", one.commands, bounds(one)), None)
            for program, other in ((one, two), (two, one)):
                kind = "same" if same(one, two) else "different"
                certificate = parts_of(one) if same(one, two) else difference(one, two)
                self.check(certify_comparison(program, other), (kind, program.commands, other.commands), certificate)
                found.append(kind)
        self.assertTrue(min(found.count("same"), found.count("different")) > 50)


class ObservationsTest(CertificatesCase):
    def check_observations(self, *told):
        claim, certificate = certify_observations(*told)
        self.assertIs(accepts(claim, certificate), True)
        if conflict(*told) is None:
            self.assertEqual(repr(claim), repr(("observed", told)))
            self.assertEqual(outcomes(Program(*certificate), *[one[0] for one in told]), tuple(one[1:] for one in told))
        else:
            self.check((claim, certificate), ("impossible", told), conflict(*told))
        return claim[0]

    def test_ordinary_observations(self):
        self.assertEqual(self.check_observations(), "observed")
        self.assertEqual(self.check_observations(GOOD), "observed")
        self.assertEqual(self.check_observations((0, 0, ("a", "b"), 0), (5, 3, ("b",), 1)), "observed")
        self.check(certify_observations((3, 2, (), 0)), ("impossible", ((3, 2, (), 0),)), (0,))
        self.check(certify_observations(GOOD, (4, 4, ("b", "b"), 1)),
                   ("impossible", (GOOD, (4, 4, ("b", "b"), 1))), (0, 1))

    def test_drawn_observations(self):
        draw = random.Random(92)
        found = []
        for turn in range(600):
            most = draw.choice((5, 40, BIG))
            program = program_for(drawn_effect(draw, draw.randint(0, 5), 5, most))
            told = list(observed(program, drawn_lengths(draw, most)))
            for change in range(draw.randint(0, 2) if told else 0):
                at = draw.randrange(len(told))
                told[at] = otherwise(draw, told[at])
            found.append(self.check_observations(*told))
        self.assertTrue(min(found.count("observed"), found.count("impossible")) > 100)


class ErrorsTest(unittest.TestCase):
    def check_error(self, value, function, *arguments, **named):
        with self.assertRaises(NotAProgram) as caught:
            function(*arguments, **named)
        self.assertIs(caught.exception.value, value)

    def test_no_programs(self):
        program = Program.read("do a; undo 5")
        for value in NO_PROGRAMS:
            with self.subTest(value=value):
                for function in (certify_effect, certify_bounds):
                    self.check_error(value, function, value)
                    self.check_error(value, function, program=value)
                self.check_error(value, certify_comparison, value, program)
                self.check_error(value, certify_comparison, program, value)
                self.check_error(value, certify_comparison, value, object())
                self.check_error(value, certify_comparison, other=None, program=value)
        self.assertEqual(str(program), "do a; undo 5")

    def test_no_observations(self):
        for value in (*ANY_VALUES, (), GOOD[:3], list(GOOD), (3, 2, ["a"], 1), (True, 0, ("a",), 0), (3, 2, ("A",), 1)):
            for told, index in (((value,), 0), ((GOOD, value, None), 1)):
                with self.subTest(value=value), self.assertRaises(InvalidObservations) as caught:
                    certify_observations(*told)
                self.assertEqual(caught.exception.index, index)
        with self.assertRaises(InvalidObservations) as caught:
            certify_observations(GOOD, (4, 9, (), 9), (4, 9, (), 9), None)
        self.assertEqual(caught.exception.index, 2)
        self.assertRaises(TypeError, certify_observations, observations=(GOOD,))


if __name__ == "__main__":
    unittest.main()
