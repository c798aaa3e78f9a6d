import unittest

from undotables.errors import InvalidText
from undotables.programs import Program
from values import NAMES, NO_NAMES, NO_TUPLES, letters

BIG = 10 ** 59
TEXTS = {
    "nothing": (),
    "do a": (("do", "a"),),
    "do abcdefgh": (("do", "abcdefgh"),),
    "undo 1": (("undo", 1),),
    "undo all": (("undo", None),),
    "redo 10": (("redo", 10),),
    "redo all": (("redo", None),),
    f"undo {BIG}; redo {10 ** 129}": (("undo", BIG), ("redo", 10 ** 129)),
    "1 times (undo 1)": (("repeat", 1, (("undo", 1),)),),
    "2 times (undo 2, redo 1)": (("repeat", 2, (("undo", 2), ("redo", 1))),),
    f"{BIG} times (redo all, undo 20, undo all)":
        (("repeat", BIG, (("redo", None), ("undo", 20), ("undo", None))),),
    "do b; undo 3; 7 times (redo 5); do a; redo all":
        (("do", "b"), ("undo", 3), ("repeat", 7, (("redo", 5),)), ("do", "a"), ("redo", None)),
    "do do; do undo; do redo; do all; do times; do nothing":
        (("do", "do"), ("do", "undo"), ("do", "redo"), ("do", "all"), ("do", "times"), ("do", "nothing")),
    "do nothing": (("do", "nothing"),),
}
NO_TEXTS = (
    "", " ", ";", "; ", "nothing ", " nothing", "Nothing", "nothing; do a", "do a; nothing", "nothing; nothing", "not",
    "do", "do ", "do  a", " do a", "do a ", "do a b", "doa", "do abcdefghi", "do A", "do a1", "do 1", "do a-b", "Do a",
    "DO a", "do a.", "do (a)", "do a,", "do a\n", "\ndo a", "do\na", "do\ta", "a", "do a do b",
    "undo", "undo ", "undo  1", "undo 1 ", " undo 1", "undo1", "undo 0", "undo 00", "undo 01", "undo 0010", "undo -1",
    "undo +1", "undo 1.0", "undo 1e3", "undo 1_0", "undo 1 0", "undo 1,000", "undo 0x1", "undo one", "undo a",
    "undo All", "undo ALL", "undo all ", "undo  all", "undoall", "undo None", "undo 1\n", "undo \u0661", "undo \u00b2",
    "undo \uff11", "Undo 1", "UNDO 1", "un do 1", "redo", "redo ", "redo 0", "redo 01", "redo al", "redo alll",
    "Redo 1", "redo 1 1", "undo (1)", "undo 1)", "undo (1", "undone 1", "1 undo", "all undo", "repeat 1", "undo all 1",
    "do a;do b", "do a ; do b", "do a;  do b", "do a; do b;", "do a; do b; ", "; do a", ";do a", "do a;; do b",
    "do a; ; do b", "do a, do b", "do a, undo 1", "undo 1, redo 1", "do a\n; do b", "do a;\ndo b", "do a. do b",
    "do a; undo 0", "undo 0; do a", "do a; undo 1; do B; redo 1",
    "2 times ()", "2 times( )", "2 times ( )", "2 times", "2 times ", "2 times (", "2 times )", "2 times undo 1",
    "2 times (undo 1", "2 times undo 1)", "2 times(undo 1)", "2times (undo 1)", "2  times (undo 1)", " 2 times (undo 1)",
    "2 times  (undo 1)", "2 times (undo 1) ", "2 times ( undo 1)", "2 times (undo 1 )", "2 times (undo 1,redo 1)",
    "2 times (undo 1,  redo 1)", "2 times (undo 1 , redo 1)", "2 times (undo 1, )", "2 times (undo 1,)",
    "2 times (, undo 1)", "2 times (undo 1, , redo 1)", "2 times (undo 1; redo 1)", "2 times (undo 1 redo 1)",
    "2 times (undo 0)", "2 times (undo 01)", "2 times (undo)", "2 times (undo 1, redo)", "2 times (redo -1)",
    "2 times (do a)", "2 times (undo 1, do a)", "2 times (do all)", "2 times (do 1)", "2 times (nothing)",
    "2 times (2 times (undo 1))", "2 times (undo 1, 2 times (undo 1))", "2 times ((undo 1))", "2 times (undo 1))",
    "0 times (undo 1)", "02 times (undo 1)", "-1 times (undo 1)", "+2 times (undo 1)", "all times (undo 1)",
    "two times (undo 1)", " times (undo 1)", "times (undo 1)", "(undo 1)", "1 time (undo 1)", "2 Times (undo 1)",
    "2 TIMES (undo 1)", "2 times [undo 1]", "2 times (undo 1) times (undo 1)", "do times (undo 1)",
    "undo times (undo 1)", "repeat times (undo 1)", "2 3 times (undo 1)", "2 times (Undo 1)", "2 times (undo all 1)",
    "a b |", "|", "History(0, 0)", "Program(0)", "('undo', 1)", "x" * 4000, "do " + "a" * 3997, " " * 4000,
)


class TextsTest(unittest.TestCase):
    def test_text_of_a_program(self):
        for text, commands in TEXTS.items():
            with self.subTest(text=text):
                self.assertEqual(str(Program(*commands)), text)

    def test_read(self):
        for text, commands in TEXTS.items():
            with self.subTest(text=text):
                for program in (Program.read(text), Program.read(text=text), Program(("do", "x")).read(text)):
                    self.assertIs(type(program), Program)
                    self.assertEqual(program.commands, commands)

    def test_every_name_can_be_read(self):
        for name in NAMES:
            self.assertEqual(Program.read(f"do {name}; undo 1; do {name}").names, (name, name))

    def test_no_name_can_be_read(self):
        for name in NO_NAMES:
            if isinstance(name, str):
                self.check_invalid(f"do {name}")
                self.check_invalid(f"do a; do {name}; undo 1")

    def test_long_texts(self):
        program = Program(*[("do", name * 8) for name in letters(60)])
        self.assertEqual(Program.read(str(program)), program)
        program = Program(*[("repeat", 10 ** 129 + at, (("undo", at + 1),)) for at in range(30)])
        self.assertEqual(Program.read(str(program)), program)
        self.assertEqual(Program.read("undo " + "9" * 3995).commands, (("undo", 10 ** 3995 - 1),))

    def test_parts_that_occur_again(self):
        text = "do a; undo 1; 2 times (undo 1, undo 1); do a; undo 1; do b; 2 times (undo 1, undo 1); do a"
        self.assertEqual(str(Program.read(text)), text)
        self.assertEqual(Program.read(text).names, ("a", "a", "b", "a"))
        self.check_invalid("do a; undo 1; do a; undo 0; undo 0")
        self.check_invalid("undo 0; do a; undo 0")

    def check_invalid(self, text):
        with self.subTest(text=text), self.assertRaises(InvalidText) as caught:
            Program.read(text)
        self.assertIs(caught.exception.text, text)

    def test_nearly_right_texts(self):
        for text in NO_TEXTS:
            self.check_invalid(text)

    def test_texts_with_one_character_changed(self):
        # What reads one text only must refuse every other one, so reading and writing must agree.
        for text in TEXTS:
            for near in near_texts(text):
                try:
                    written = str(Program.read(near))
                except InvalidText as error:
                    self.assertEqual(error.text, near)
                else:
                    self.assertEqual(written, near)

    def test_no_strings(self):
        for value in NO_TUPLES + ((), ("do a",), (("do", "a"),), Program(), Program(("do", "a"))):
            if not isinstance(value, str):
                self.check_invalid(value)


def near_texts(text):
    """The text with a character left out, put in, or in place of another one."""
    for at in range(len(text) + 1):
        yield text[:at] + text[at + 1:]
        for character in " ;,()01aAl|-\n":
            yield text[:at] + character + text[at:]
            yield text[:at] + character + text[at + 1:]


if __name__ == "__main__":
    unittest.main()
