"""Points 2 and 3: which texts are programs, and which line is the first wrong one."""

import unittest
from random import Random

from frameplaces.errors import BadProgram
from frameplaces.programs import Program
from generated import made_program
from independent import KEYWORDS, cells_of, first_wrong


def wrong_line(text):
    try:
        Program(text)
    except BadProgram as error:
        return error.line
    return None


class Reading(unittest.TestCase):
    def right(self, *lines):
        self.assertIsNone(wrong_line("\n".join(lines)), lines)

    def wrong(self, number, *lines):
        self.assertEqual(wrong_line("\n".join(lines)), number, lines)

    def test_empty_text(self):
        program = Program("")
        self.assertEqual((program.text, program.cells, program.run([1, 2])), ("", (), []))

    def test_attributes(self):
        text = "local b a\nblock\nlocal d\nend\nblock\nlocal c\nend"
        program = Program(text)
        self.assertEqual(program.text, text)
        self.assertEqual(program.cells, ("b", "a", "d", "c"))
        self.assertIs(type(program.cells), tuple)

    def test_every_form(self):
        self.right(
            "local a b", "input a", "copy a to b", "point a to b", "load a from b", "store a to b", "use a", "call b",
            "block", "end", "loop", "end", "maybe", "end", "maybe", "else", "end", "same a b", "end", "same a b", "else",
            "end", "block", "local c", "use c", "end", "copy a to a", "point a to a", "load a from a", "store a to a",
            "same b b", "end",
        )

    def test_wrong_forms(self):
        for line in (
            "input", "input a b", "input a,", "copy a b", "copy a to", "copy to b", "copy a from b", "copy a to b c",
            "copy a b to", "point a b", "point a from b", "load a to b", "load a", "store a from b", "store a b", "use",
            "use a b", "call", "call a b", "block a", "loop a", "maybe a", "same", "same a", "same a b a", "same a to b",
            "else a", "end a", "Use a", "USE a", "uses a", "a", "to", "from", "to a", "nothing", "use A", "use 1",
            "local", "# use a", "use a;", "input to", "copy a to to", "use use",
        ):
            self.wrong(2, "local a b", line, "use a")

    def test_blank_and_odd_lines(self):
        self.wrong(1, "", "")
        self.wrong(1, " ")
        self.wrong(1, "", "local a")
        self.wrong(2, "local a", "", "use a")
        self.wrong(2, "local a", "use a ")
        self.wrong(2, "local a", " use a")
        self.wrong(2, "local a", "use  a")
        self.wrong(2, "local a", "  ", "use a")
        self.wrong(1, "local  a")
        self.wrong(1, "local a  b")
        self.wrong(1, "local a ")
        self.wrong(1, "local ")
        self.wrong(1, " local a")
        self.wrong(2, "local a", "copy a  to a")
        self.wrong(2, "block", "end ")
        self.wrong(1, "block ", "end")
        self.assertEqual(wrong_line("local a\nuse a\n"), 3)
        self.assertEqual(wrong_line("\n"), 1)
        self.assertEqual(wrong_line("local a\n"), 2)

    def test_line_40_and_line_41(self):
        self.right("local a", *["use a"] * 39)
        self.wrong(41, "local a", *["use a"] * 40)
        self.wrong(41, "local a", *["use a"] * 60)
        self.wrong(40, "local a", *["use a"] * 38, "use b", "use a")
        self.wrong(40, "local a", *["use a"] * 38, "use b")
        self.wrong(41, "block", *["block", "end"] * 20)
        self.wrong(41, *["block", "end"] * 19, "block", "block")
        self.wrong(41, *["block", "end"] * 19, "block", "block", "end")

    def test_fifth_and_sixth_open_block(self):
        for opener in ("block", "loop", "maybe", "same a a"):
            self.right("local a", *[opener] * 5, *["end"] * 5)
            self.wrong(7, "local a", *[opener] * 6, *["end"] * 6)
            self.wrong(7, "local a", *["block"] * 5, opener, "end", *["end"] * 5)
        self.right(*["maybe"] * 5, *["else", "end"] * 5)
        self.wrong(7, *["maybe"] * 5, "else", "block", "end", "end", *["end"] * 4)
        self.right(*["maybe"] * 5, "else", "end", "maybe", "else", "end", *["end"] * 4)
        self.right("block", "end", *["block"] * 5, *["end"] * 5)

    def test_fifth_and_sixth_cell(self):
        self.right("local a b c d e")
        self.wrong(1, "local a b c d e f")
        self.right("local a b", "block", "local c d", "end", "block", "local e", "end")
        self.wrong(6, "local a b", "block", "local c d", "end", "block", "local e f", "end")
        self.wrong(6, "local a b", "block", "local c d e", "end", "block", "local f", "end")

    def test_where_local_stands(self):
        for opener in ("block", "loop", "maybe", "same a a"):
            self.right("local a", opener, "local b", "end")
            self.wrong(4, "local a", opener, "use a", "local b", "end")
            self.wrong(4, "local a", opener, "local b", "local c", "end")
            self.wrong(4, "local a", opener, "end", "local b")
        self.right("local a", "maybe", "else", "local b", "end")
        self.right("local a", "maybe", "local b", "else", "local c", "end")
        self.right("local a", "same a a", "local b", "use b", "else", "local c", "use c", "end")
        self.wrong(5, "local a", "maybe", "else", "use a", "local b", "end")
        self.wrong(5, "local a", "maybe", "else", "local b", "local c", "end")
        self.wrong(2, "local a", "local b")
        self.wrong(3, "block", "end", "local b")
        self.wrong(3, "local a", "use a", "local b")

    def test_names(self):
        self.right("local abcdefghijkl", "use abcdefghijkl")
        self.wrong(1, "local abcdefghijklm")
        self.wrong(1, "local a B")
        self.wrong(1, "local a1")
        self.wrong(1, "local a_b")
        self.wrong(1, "local a,b")
        self.wrong(1, "local a-")
        for word in KEYWORDS:
            self.wrong(1, f"local {word}")
            self.wrong(1, f"local a {word}")
            self.right(f"local {word}x", f"use {word}x")

    def test_declared_twice(self):
        self.wrong(1, "local a a")
        self.wrong(1, "local a b a")
        self.wrong(3, "local a", "block", "local a", "end")
        self.wrong(6, "local a", "block", "local b", "end", "block", "local b", "end")
        self.wrong(4, "maybe", "local a", "else", "local a", "end")
        self.wrong(6, "local a", "block", "local b", "end", "block", "local c a", "end")

    def test_cells_that_are_not_declared_here(self):
        self.wrong(1, "use a")
        self.wrong(2, "local a", "use b")
        self.wrong(5, "local a", "block", "local b", "end", "use b")
        self.wrong(5, "local a", "block", "local b", "end", "same a b", "end")
        self.wrong(5, "block", "local a", "end", "block", "use a", "end")
        self.wrong(4, "maybe", "local a", "else", "use a", "end")
        self.wrong(1, "same a a", "local a", "end")
        self.wrong(2, "block", "use a", "block", "local a", "end", "end")
        self.wrong(4, "block", "block", "local a", "copy a to b", "end", "local b", "end")
        self.right("block", "local a", "block", "block", "use a", "end", "end", "use a", "end")
        self.right("maybe", "local a", "same a a", "else", "use a", "end", "end")
        for line in ("copy b to a", "copy a to b", "point b to a", "point a to b", "load a from b", "load b from a",
                     "store a to b", "store b to a", "input b", "call b", "same b a", "same a b"):
            self.wrong(2, "local a", line)

    def test_else_and_end(self):
        self.wrong(1, "end")
        self.wrong(1, "else")
        self.wrong(2, "block", "else", "end")
        self.wrong(2, "loop", "else", "end")
        self.wrong(3, "maybe", "else", "else", "end")
        self.wrong(3, "block", "end", "end")
        self.wrong(4, "maybe", "else", "end", "else")
        self.wrong(3, "maybe", "block", "else", "end", "end")
        self.right("maybe", "maybe", "else", "end", "else", "maybe", "else", "end", "end")

    def test_lacking_end(self):
        self.wrong(2, "block")
        self.wrong(3, "block", "block")
        self.wrong(3, "maybe", "else")
        self.wrong(5, "loop", "maybe", "else", "end")
        self.wrong(4, "local a", "same a a", "use a")

    def test_first_of_several_wrong_lines(self):
        self.wrong(2, "local a", "use b", "use c", "end")
        self.wrong(2, "local a", "end", "block")
        self.wrong(1, "local a a", "use", *["use a"] * 50)
        self.wrong(3, "local a", "block", "use b", "block")
        self.wrong(2, "block", "else", *["block"] * 9)
        self.wrong(6, *["block"] * 7)

    def test_equality(self):
        self.assertTrue(Program("local a") == Program("local a"))
        self.assertFalse(Program("local a") != Program("local a"))
        self.assertFalse(Program("local a") == Program("local b"))
        self.assertTrue(Program("local a") != Program("local a\nuse a"))
        self.assertFalse(Program("local a") == "local a")
        self.assertTrue(Program("") == Program(""))


MISPLACED = ("end", "else", "block", "loop", "maybe", "local z", "local a", "", "same a b", "use a", "input c", "local",
             "local b c d e f")


def spoiled(text, draw):
    """A program with up to three changes of its lines."""
    lines = text.split("\n")
    for _ in range(draw.randint(0, 3)):
        at = draw.randrange(len(lines))
        change = draw.randrange(8)
        if change == 0:
            lines.insert(at, draw.choice(MISPLACED))
        elif change == 1:
            lines[at] += draw.choice([" ", " a", "x", " to"])
        elif change == 2:
            lines[at] = lines[at].replace(" ", "  ", 1)
        elif change == 3:
            lines[at] = " " + lines[at]
        elif change == 4:
            lines.append(lines[at])
        elif change == 5:
            lines[at] = lines[at].replace(draw.choice("abcde"), draw.choice(["abcdefghijklm", "to", "A", "q"]))
        elif change == 6:
            other = draw.randrange(len(lines))
            lines[at], lines[other] = lines[other], lines[at]
        else:
            lines[at:at + draw.randint(0, 1)] = ["block"] * draw.randint(0, 6)
        lines = lines or ["end"]
    return "\n".join(lines)


class ReadingOfMadeTexts(unittest.TestCase):
    def test_first_wrong_line(self):
        met = set()
        for seed in range(4000):
            draw = Random(seed)
            text = spoiled(made_program(seed, draw.choice([4, 9, 20]), draw.randint(2, 5)), draw)
            told = first_wrong(text)
            met.add(told)
            self.assertEqual(wrong_line(text), told, text)
            if told is None:
                self.assertEqual(Program(text).cells, tuple(cells_of(text)), text)
        self.assertTrue(set(range(1, 21)) <= met)


if __name__ == "__main__":
    unittest.main()
