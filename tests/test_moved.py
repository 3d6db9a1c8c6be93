"""The first half of point 14: the block of a cell, and cells that are moved outwards."""

import unittest
from random import Random

from frameplaces.errors import BadProgram, NoCell, Outermost
from frameplaces.lots import right_lots
from frameplaces.programs import Program
from generated import made_program


def program(*lines):
    return Program("\n".join(lines))


def text(*lines):
    return "\n".join(lines)


class OpenedAt(unittest.TestCase):
    def test_each_kind_of_block(self):
        made = program("local a", "block", "local b", "end", "same a a", "local c", "else", "local d", "loop", "local e",
                       "end", "end")
        self.assertEqual([made.opened_at(cell) for cell in "abcde"], [0, 2, 5, 7, 9])
        made = program("maybe", "else", "local a", "end", "maybe", "local b", "end", "block", "block", "local c", "end", "end")
        self.assertEqual([made.opened_at(cell) for cell in "abc"], [2, 5, 9])

    def test_no_cell(self):
        for made in (program("local a"), Program("")):
            for name in ("z", "", "local", "&a"):
                for call in (made.opened_at, made.moved):
                    with self.assertRaises(NoCell) as caught:
                        call(name)
                    self.assertEqual(vars(caught.exception), {"name": name})


class Moved(unittest.TestCase):
    def test_to_the_end_of_a_line(self):
        made = program("local a b", "block", "local c d", "use c", "end")
        self.assertEqual(made.moved("c").text, text("local a b c", "block", "local d", "use c", "end"))
        self.assertEqual(made.moved("d").text, text("local a b d", "block", "local c", "use c", "end"))
        self.assertEqual(made.moved("d").cells, ("a", "b", "d", "c"))

    def test_the_own_line_is_left_out(self):
        made = program("local a", "loop", "local b", "use b", "end")
        self.assertEqual(made.moved("b").text, text("local a b", "loop", "use b", "end"))

    def test_a_new_first_line(self):
        made = program("block", "local a b", "use a", "end")
        self.assertEqual(made.moved("a").text, text("local a", "block", "local b", "use a", "end"))
        made = program("block", "local a", "end")
        self.assertEqual(made.moved("a").text, text("local a", "block", "end"))
        made = program("local a", "loop", "block", "local b", "end", "end")
        self.assertEqual(made.moved("b").text, text("local a", "loop", "local b", "block", "end", "end"))
        made = program("block", "end", "block", "local a", "end")
        self.assertEqual(made.moved("a").text, text("local a", "block", "end", "block", "end"))

    def test_out_of_and_into_else(self):
        made = program("local a", "same a a", "local b", "else", "local c d", "end")
        self.assertEqual(made.moved("c").text, text("local a c", "same a a", "local b", "else", "local d", "end"))
        made = program("maybe", "else", "local c", "end")
        self.assertEqual(made.moved("c").text, text("local c", "maybe", "else", "end"))
        made = program("maybe", "else", "block", "local c", "end", "end")
        self.assertEqual(made.moved("c").text, text("maybe", "else", "local c", "block", "end", "end"))
        made = program("maybe", "local a", "else", "local b", "use b", "block", "local c", "end", "end")
        self.assertEqual(made.moved("c").text, text("maybe", "local a", "else", "local b c", "use b", "block", "end", "end"))

    def test_only_by_one_block(self):
        made = program("block", "block", "local a", "end", "end")
        once = made.moved("a")
        self.assertEqual((once.text, once.opened_at("a")), (text("block", "local a", "block", "end", "end"), 1))
        self.assertEqual(once.moved("a").text, text("local a", "block", "block", "end", "end"))

    def test_outermost(self):
        made = program("local a", "block", "local b", "end")
        for call in (lambda: made.moved("a"), lambda: made.moved("b").moved("b")):
            with self.assertRaises(Outermost) as caught:
                call()
            self.assertIn(vars(caught.exception), ({"name": "a"}, {"name": "b"}))

    def test_the_program_itself_stays(self):
        source = text("local a", "block", "local b", "end")
        made = Program(source)
        self.assertEqual(made.moved("b"), program("local a b", "block", "end"))
        self.assertEqual((made.text, made.cells, made.opened_at("b")), (source, ("a", "b"), 2))

    def test_no_bound_of_40_lines(self):
        lines = ["block", "block", "local b c", *["use b"] * 35, "end", "end"]
        once = program(*lines).moved("c")
        self.assertEqual(once.text, text("block", "local c", "block", "local b", *["use b"] * 35, "end", "end"))
        self.assertEqual(len(once.text.split("\n")), 41)
        self.assertEqual(len(once.run([])), 35)
        self.assertEqual(right_lots(once), [["b", "c"]])
        self.assertEqual(once.opened_at("b"), 3)
        twice = once.moved("b").moved("b").moved("c")
        self.assertEqual(twice.text, text("local b c", "block", "block", *["use b"] * 35, "end", "end"))
        with self.assertRaises(BadProgram) as caught:
            Program(once.text)
        self.assertEqual(caught.exception.line, 41)
        self.assertEqual(Program(twice.text), twice)

    def test_42_lines(self):
        lines = ["block", "local d", "block", "local a b c", *["use b"] * 34, "end", "end"]
        made = program(*lines).moved("d").moved("a")
        self.assertEqual(made.text, text("local d", "block", "local a", "block", "local b c", *["use b"] * 34, "end", "end"))
        self.assertEqual(len(made.text.split("\n")), 41)
        self.assertEqual(made.moved("a").text.split("\n")[:3], ["local d a", "block", "block"])


class MovedInMadePrograms(unittest.TestCase):
    def test_blocks_and_events(self):
        tried = 0
        for seed in range(1200):
            draw = Random(seed)
            made = Program(made_program(seed, 9, draw.randint(3, 5)))
            for cell in made.cells:
                if made.opened_at(cell) == 0:
                    continue
                tried += 1
                moved = made.moved(cell)
                self.assertEqual(Program(moved.text), moved)
                self.assertEqual(sorted(moved.cells), sorted(made.cells))
                self.assertLess(moved.opened_at(cell), made.opened_at(cell) + 1)
                choices = [draw.randint(-1, 4) for _ in range(20)]
                self.assertEqual([(event[0], *event[2:]) for event in moved.run(choices)],
                                 [(event[0], *event[2:]) for event in made.run(choices)])
                deeds = [line for line in made.text.split("\n") if not line.startswith("local")]
                self.assertEqual([line for line in moved.text.split("\n") if not line.startswith("local")], deeds)
        self.assertGreater(tried, 300)


if __name__ == "__main__":
    unittest.main()
