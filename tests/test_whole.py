"""Points 1 to 14 over the whole program: what one part says is what every other part says."""
import random
import unittest

from undotables.bounds import bounds, trimmed
from undotables.building import program_for
from undotables.certificates import certify_bounds, certify_comparison, certify_effect, certify_observations
from undotables.checker import accepts
from undotables.comparing import alike, difference, same
from undotables.console import Console
from undotables.editors import CountingEditor, CountingGuardedEditor, Editor, GuardedEditor
from undotables.effects import Effect, effect_of
from undotables.histories import History
from undotables.observing import conflict, program_with
from undotables.outcomes import kept_dos, outcome, outcomes, word
from undotables.programs import Program
from models import BIG, drawn_effect, drawn_program, left_by_doubling, left_one_by_one, made_of, reach
from values import letters

KINDS = (Editor, CountingEditor, GuardedEditor, CountingGuardedEditor)


def named_program(random, many, most, turns):
    """A drawn program whose dos have names that no two of them share, apart from those of old items."""
    names = iter(letters(26))
    return Program(*[("do", "x" + next(names)) if command[0] == "do" else command
                     for command in drawn_program(random, many, most, turns).commands])


def outcome_in(history):
    """The outcome that a history shows, if the names of the old items are single letters and those of new ones not."""
    old = [name for name in history.line if len(name) == 1]
    return (len(old), history.line[len(old):], len(history.future))


class HistoriesTest(unittest.TestCase):
    def test_a_run_on_a_history(self):
        draw = random.Random(101)
        for turn in range(300):
            program, length = named_program(draw, draw.randint(0, 10), 6, 4), draw.randint(0, 20)
            history = History.of(*letters(length))
            after = program(history)
            told = left_one_by_one(program, length)[0]
            self.assertEqual(outcome_in(after), told)
            self.assertEqual(after.line[:told[0]], letters(length)[:told[0]])
            self.assertEqual(outcome(program, length), told)
            self.assertEqual(effect_of(program)[length], told)
            self.assertEqual([history, *program.each(history)][-1], after)
            self.check_editors(program, length, after)
            self.check_console(program, length, after, told)
            self.check_kept(program, length, told)

    def check_editors(self, program, length, after):
        for kind in KINDS:
            whole, single = kind(*letters(length)), kind(*letters(length))
            whole.perform(program.commands)
            for command in program.commands:
                if command[0] == "repeat":
                    single.perform((command,))
                else:
                    {"do": single.do, "undo": single.undo, "redo": single.redo}[command[0]](command[1])
            for editor in (whole, single):
                self.assertEqual(editor.history, after)
                self.assertEqual(editor.log, program.commands)
                self.assertEqual(Program(*editor.log)(History.of(*letters(length))), after)
                self.assertEqual(editor.describe().split(",")[0], f"{kind.KIND} {after}")

    def check_console(self, program, length, after, told):
        console = Console(*letters(length))
        if not [command for command in program.commands if command[0] == "repeat"]:
            self.assertEqual(console.run(f"perform {program}"), str(after))
        kept, items, undone = told
        self.assertEqual(console.run(f"outcome {length} {program}"), " ".join(map(str, (kept, undone, *items))))
        found = " ".join("always" if bound is None else str(bound) for bound in bounds(program))
        self.assertEqual(console.run(f"bounds {program}"), found or "none")

    def check_kept(self, program, length, told):
        kept = [at for at, bound in enumerate(bounds(program)) if bound is None or length < bound]
        self.assertEqual(kept_dos(program, length), tuple(kept))
        self.assertEqual(tuple(program.names[at] for at in kept), told[1])


class WordsTest(unittest.TestCase):
    def test_one_old_item_more(self):
        draw = random.Random(102)
        for turn in range(300):
            program = program_for(drawn_effect(draw, draw.randint(0, 5), 5, 4)) + drawn_program(draw, 4, 4, 3)
            effect = effect_of(program)
            for length in range(min(60, reach(program) + 3)):
                (kept, items, undone), more = outcomes(program, length, length + 1)
                told = word(program, length)
                self.assertEqual(effect.word(length), told)
                lost = [items[:at] + items[at + 1:] for at in range(len(items) - 1)]
                self.assertIn(more, {"keep": [(kept + 1, items, undone)], "undone": [(kept + 1, items, undone + 1)],
                                     "old": [(kept, items, undone)],
                                     "item": [(kept + 1, less, undone) for less in lost]}[told])
                if length >= reach(program):
                    self.assertEqual(told, word(program, reach(program)))
                    self.assertIn(told, ("keep", "old", "undone"))
            self.assertTrue(effect.last <= reach(program))

    def test_a_lost_item_stays_lost(self):
        draw = random.Random(103)
        for turn in range(100):
            program = drawn_program(draw, draw.randint(0, 12), 6, 3)
            kept = [kept_dos(program, length) for length in range(reach(program) + 2)]
            for one, more in zip(kept, kept[1:]):
                self.assertTrue(set(more) <= set(one))


class ProgramsTest(unittest.TestCase):
    def programs(self, random, many):
        for most, turns in ((4, 3), (9, 10 ** 30), (BIG, BIG)):
            for turn in range(many):
                yield drawn_program(random, random.choice((1, 4, 12, 60)), most, turns)
                yield program_for(drawn_effect(random, random.randint(0, 8), 8, most))

    def test_programs_of_the_same_effect(self):
        draw = random.Random(104)
        for program in self.programs(draw, 40):
            effect = effect_of(program)
            others = [program_for(effect), trimmed(program), Program.read(str(program)), program + Program()]
            self.assertIs(alike(program, *others), True)
            for other in others:
                self.assertIsNone(difference(program, other))
                self.assertEqual(effect_of(other), effect)
                self.assertIs(accepts(("same", program.commands, other.commands), certify_comparison(
                    other, program)[1]), True)
            self.assertEqual(len([bound for bound in bounds(program) if bound != 0]), len(effect.new_names))
            self.assertEqual(Effect(effect.new_names, effect.undone_count, effect.changes), effect)

    def test_what_is_certified(self):
        draw = random.Random(105)
        for program in self.programs(draw, 40):
            other = made_of(draw, program, drawn_program(draw, 3, 5, 3))
            for claim, certificate in (certify_effect(program), certify_bounds(program),
                                       certify_comparison(program, other)):
                self.assertIs(accepts(claim, certificate), True)
            least = difference(program, other)
            self.assertIs(same(program, other), least is None)
            for length in (0, 1, 7, BIG, reach(program)):
                differ = outcome(program, length) != outcome(other, length)
                self.assertIs(accepts(("different", program.commands, other.commands), length), differ)
                self.assertFalse(differ and (least is None or length < least))

    def test_what_is_observed(self):
        draw = random.Random(106)
        for program in self.programs(draw, 25):
            lengths = sorted({0, draw.randint(1, 9), draw.randint(10, 10 ** 9), reach(program) + 10 ** 10})
            told = tuple((length, *outcome(program, length)) for length in lengths)
            self.assertIsNone(conflict(*told))
            other = program_with(*told)
            self.assertEqual(outcomes(other, *lengths), outcomes(program, *lengths))
            for each in (other, program):
                self.assertIs(accepts(("observed", told), each.commands), True)
            self.assertIs(accepts(*certify_observations(*told)), True)

    def test_effects_add_up(self):
        draw = random.Random(107)
        for program in self.programs(draw, 25):
            more = drawn_program(draw, draw.randint(0, 6), draw.choice((4, BIG)), 4)
            self.assertEqual(effect_of(program) + more, effect_of(program + more))
            self.assertEqual(effect_of(program_for(effect_of(program)) + more), effect_of(program + more))
            for length in (0, 3, 10 ** 30):
                self.assertEqual((effect_of(program) + more)[length], left_by_doubling(program + more, length)[0])


if __name__ == "__main__":
    unittest.main()
