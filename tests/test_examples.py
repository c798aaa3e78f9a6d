"""The examples of the document, as they stand; the last line of each tells what the one before it gives."""
import unittest

EXAMPLES = (
    '''
>>> from undotables.histories import History
>>> history = History.of("a", "b", "c").undo(2).redo()
>>> [history.past, history.future, str(history), len(history), "c" in history, str(history.do("d")), str(history.undo(None))]
[('a', 'b'), ('c',), 'a b | c', 3, False, 'a b d |', '| a b c']
''',
    '''
>>> from undotables.histories import History
>>> from undotables.programs import Program
>>> program = Program(("do", "x"), ("repeat", 2, (("undo", 2), ("redo", 1)))) + Program.read("do y; undo all")
>>> [str(program), program.names, len(program), "y" in program, repr(program)]
['do x; 2 times (undo 2, redo 1); do y; undo all', ('x', 'y'), 4, True, 'Program(4)']
''',
    '''
>>> from undotables.histories import History
>>> from undotables.programs import Program
>>> program = Program.read("do x; 2 times (undo 2, redo 1); do y; undo all")
>>> list(map(str, program.each(History.of("a", "b", "c"))))
['a b c x |', 'a b | c x', 'a b y |', '| a b y']
''',
    '''
>>> from undotables.programs import Program
>>> Program(("do", "x"), ("undo", 0))
raises InvalidProgram(index=1)
''',
    '''
>>> from undotables.outcomes import kept_dos, outcomes, word
>>> from undotables.programs import Program
>>> program = Program.read("do a; undo 5; redo 4; do b")
>>> [outcomes(program, 0, 3, 4, 10 ** 30), word(program, 3), word(program, 4), kept_dos(program, 4)]
[((0, ('a', 'b'), 0), (3, ('a', 'b'), 0), (4, ('b',), 0), (1000000000000000000000000000000, ('b',), 0)), 'item', 'keep', (1,)]
''',
    '''
>>> from undotables.effects import effect_of
>>> from undotables.programs import Program
>>> effect = effect_of(Program.read("do a; undo 5; redo 4; do b"))
>>> [effect.new_names, effect.undone_count, effect.changes, effect[4], effect.word(3), effect.last]
[('a', 'b'), 0, ((3, 1, 0),), (4, ('b',), 0), 'item', 4]
''',
    '''
>>> from undotables.effects import effect_of
>>> from undotables.programs import Program
>>> one, two = effect_of(Program.read("do a; do b; undo 3")), effect_of(Program.read("undo all; redo 3; do x"))
>>> three = effect_of(Program.read("1000 times (undo 2, redo 1); do a"))
>>> [one.new_names, one.undone_count, one.changes, two.new_names, two.changes, three.changes]
[('a', 'b'), 2, ((0, 1, 'undone'),), ('x',), ((3, None, 'old'),), ((1, 1000, 'old'),)]
''',
    '''
>>> from undotables.effects import Effect, effect_of
>>> from undotables.programs import Program
>>> first, second = Program.read("do a; undo 5"), Program.read("do b")
>>> [effect_of(first) + second == effect_of(first + second), Effect(("b",), 0, ((0, 4, "old"),)).table(0, 4, 5)]
[True, '       0       0       0  b\\n       4       0       0  b\\n       5       1       0  b']
''',
    '''
>>> from undotables.effects import Effect
>>> Effect(("a", "a", "b"), 0, ((2, 1, 0), (4, 1, 1)))
raises InvalidChanges(index=1)
''',
    '''
>>> from undotables.effects import Effect
>>> Effect(("a", "a", "b"), 0, ((2, 1, 1),))
raises InvalidChanges(index=0)
''',
    '''
>>> from undotables.building import program_for
>>> from undotables.effects import Effect, effect_of
>>> effect = Effect(("a", "b"), 1, ((0, 2, "old"), (2, 1, 0), (7, None, "undone")))
>>> effect_of(program_for(effect)) == effect
True
''',
    '''
>>> from undotables.comparing import alike, difference, same
>>> from undotables.programs import Program
>>> one, two = Program.read("undo 1; do x"), Program.read("undo 2; do x")
>>> [same(one, Program.read("do y; undo 2; do x")), difference(one, two), alike(one, one, two), alike()]
[True, 2, False, True]
''',
    '''
>>> from undotables.bounds import bounds, trimmed
>>> from undotables.comparing import same
>>> from undotables.programs import Program
>>> program = Program.read("do a; undo 5; redo 4; do b; undo 1; do c")
>>> less = trimmed(program)
>>> [bounds(program), less.names, same(program, less), bounds(Program.read("do a; do a; undo 3; redo 2; do b"))]
[(4, 0, None), ('a', 'c'), True, (None, 1, None)]
''',
    '''
>>> from undotables.observing import conflict, program_with
>>> from undotables.outcomes import outcomes
>>> program = program_with((0, 0, ("a", "b"), 0), (5, 3, ("b",), 1))
>>> [outcomes(program, 0, 5), conflict((0, 0, ("a", "b"), 0), (1, 1, ("a",), 0)), program_with((3, 2, (), 0))]
[((0, ('a', 'b'), 0), (3, ('b',), 1)), (0, 1), None]
''',
    '''
>>> from undotables.editors import CountingGuardedEditor
>>> editor = CountingGuardedEditor("a", "b")
>>> editor.change_limit(1)
>>> counts = [editor.undo(), editor.do("c"), editor.undo(None), editor.redo()]
>>> [counts, editor.describe(), editor.log, editor.changed, editor.can_revert]
[[1, 1, 2, 1], 'counting guarded editor a | c, 1 discarded', (('undo', 1), ('do', 'c'), ('undo', None), ('redo', 1)), True, False]
''',
    '''
>>> from undotables.editors import GuardedEditor
>>> editor = GuardedEditor("a", "b", "c")
>>> editor.change_limit(1)
>>> editor.perform((("undo", 2), ("do", "d")))
raises TooManyDiscarded(count=2)
''',
    '''
>>> from undotables.editors import Editor
>>> editor = Editor("a", "b", "c")
>>> editor.perform((("undo", 2), ("redo", 1)))
>>> [str(editor.history), editor.changed, editor.revert(), editor.changed, editor.revert(), len(editor)]
['a b | c', True, ('redo', 1), False, None, 3]
''',
    '''
>>> from undotables.certificates import certify_comparison, certify_observations
>>> from undotables.checker import accepts
>>> from undotables.programs import Program
>>> claim, certificate = certify_comparison(Program.read("undo 1; do x"), Program.read("do y; undo 2; do x"))
>>> [claim[0], certificate, accepts(claim, certificate), certify_observations((3, 2, (), 0))]
['same', (('x',), 0, ((0, 1, 'old'),)), True, (('impossible', ((3, 2, (), 0),)), (0,))]
''',
    '''
>>> from undotables.console import Console
>>> console = Console("a", "b")
>>> [console.run("perform undo 1; do c"), console.run("changed"), console.run("outcome 7 do a; undo 5; do b"), console.run("bounds do a; undo 5; do b")]
['a c |', 'yes', '3 0 b', '0 always']
''',
    '''
>>> from undotables.console import Console
>>> Console("a").run("undo 01")
raises InvalidLine(text='undo 01')
''',
)


def result_of(example):
    """What the example gives, written as in the document, and what the document says."""
    *lines, expected = example.strip().split("\n")
    codes = [line.removeprefix(">>> ") for line in lines]
    names = {}
    for code in codes[:-1]:
        exec(code, names)
    try:
        return repr(eval(codes[-1], names)), expected
    except Exception as error:
        told = ", ".join(f"{name}={value!r}" for name, value in vars(error).items())
        return f"raises {type(error).__name__}({told})", expected


class ExamplesTest(unittest.TestCase):
    def test_examples(self):
        for example in EXAMPLES:
            with self.subTest(example=example):
                result, expected = result_of(example)
                self.assertEqual(result, expected)


if __name__ == "__main__":
    unittest.main()
