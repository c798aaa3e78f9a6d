"""The examples of the document, as they stand; the last line of each tells what the one before it gives."""
import unittest

EXAMPLES = (
    '''
>>> from undotables.histories import History
>>> history = History.of("a", "b", "c").undo(2).redo()
>>> [history.past, history.future, str(history), len(history), "c" in history, str(history.do("d")), str(history.undo(None))]
[('a', 'b'), ('c',), 'a b | c', 3, False, 'a b d |', '| a b c']
''',
    '''
>>> from undotables.histories import History
>>> from undotables.programs import Program
>>> program = Program(("do", "x"), ("repeat", 2, (("undo", 2), ("redo", 1)))) + Program.read("do y; undo all")
>>> [str(program), program.names, len(program), "y" in program, repr(program)]
['do x; 2 times (undo 2, redo 1); do y; undo all', ('x', 'y'), 4, True, 'Program(4)']
''',
    '''
>>> from undotables.histories import History
>>> from undotables.programs import Program
>>> program = Program.read("do x; 2 times (undo 2, redo 1); do y; undo all")
>>> list(map(str, program.each(History.of("a", "b", "c"))))
['a b c x |', 'a b | c x', 'a b y |', '| a b y']
''',
    '''
>>> from undotables.programs import Program
>>> Program(("do", "x"), ("undo", 0))
raises InvalidProgram(index=1)
''',
)


def result_of(example):
    """What the example gives, written as in the document, and what the document says."""
    *lines, expected = example.strip().split("\n")
    codes = [line.removeprefix(">>> ") for line in lines]
    names = {}
    for code in codes[:-1]:
        exec(code, names)
    try:
        return repr(eval(codes[-1], names)), expected
    except Exception as error:
        told = ", ".join(f"{name}={value!r}" for name, value in vars(error).items())
        return f"raises {type(error).__name__}({told})", expected


class ExamplesTest(unittest.TestCase):
    def test_examples(self):
        for example in EXAMPLES:
            with self.subTest(example=example):
                result, expected = result_of(example)
                self.assertEqual(result, expected)


if __name__ == "__main__":
    unittest.main()
