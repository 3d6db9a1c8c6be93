"""Point 14: plain cells, wrong pairs, and how far cells must be moved."""

import unittest
from itertools import combinations
from random import Random

from frameplaces.lots import is_right
from frameplaces.plain import lengthen, plain_pairs, wrong_pairs
from frameplaces.programs import Program
from generated import made_nest, made_program, small_program
from independent import Search
from independent_edits import lengthened, plain_in, wrong_in


def program(*lines):
    return Program("\n".join(lines))


def kept(cell):
    """Lines that write a cell and keep what it holds from being written over unseen."""
    return [f"use {cell}", f"input {cell}"]


class PlainPairs(unittest.TestCase):
    def test_two_sides(self):
        for word in ("maybe", "same a a"):
            made = program("local a", word, "local c", "else", "local b", "end")
            self.assertEqual(plain_pairs(made), [("b", "c")])
            made = program("local a", word, "local c", "end", word, "else", "local b", "end")
            self.assertEqual(plain_pairs(made), [("b", "c")])

    def test_within_one_side(self):
        made = program("maybe", "local a", "block", "local b", "end", "else", "local c", "block", "local d", "end", "end")
        self.assertEqual(plain_pairs(made), [("a", "c"), ("a", "d"), ("b", "c"), ("b", "d")])

    def test_each_kind_of_block(self):
        made = program("block", "local d", "end", "loop", "local c", "end", "maybe", "local b", "same b b", "local a",
                       "end", "end")
        self.assertEqual(plain_pairs(made), [("a", "c"), ("a", "d"), ("b", "c"), ("b", "d"), ("c", "d")])

    def test_one_block(self):
        self.assertEqual(plain_pairs(program("local a b c")), [])
        self.assertEqual(plain_pairs(program("block", "local b a", "end")), [])
        self.assertEqual(plain_pairs(program("block", "local b a", "end", "block", "local c", "end")),
                         [("a", "c"), ("b", "c")])

    def test_the_own_block_of_the_text(self):
        made = program("local a", "block", "local b", "end", "maybe", "else", "local c", "end")
        self.assertEqual(plain_pairs(made), [("b", "c")])

    def test_a_block_within_a_block(self):
        self.assertEqual(plain_pairs(program("block", "local a", "block", "local b", "end", "end")), [])
        made = program("block", "local a", "loop", "block", "local b", "end", "end", "end")
        self.assertEqual(plain_pairs(made), [])
        made = program("block", "block", "local a", "end", "block", "local b", "end", "end")
        self.assertEqual(plain_pairs(made), [("a", "b")])

    def test_five_deep(self):
        deep = ["block", "local a", "loop", "local b", "maybe", "local c", "same a a", "local d", "block", "local e"]
        self.assertEqual(plain_pairs(program(*deep, *["end"] * 5)), [])
        deep = ["block", "local a", "loop", "maybe", "else", "same a a", "block", "local e", "end", "else", "local d", "end"]
        made = program(*deep, "end", "block", "local c", "end", "end", "end", "block", "local b", "end")
        self.assertEqual(plain_pairs(made), [
            ("a", "b"), ("b", "c"), ("b", "d"), ("b", "e"), ("c", "d"), ("c", "e"), ("d", "e"),
        ])

    def test_few_cells(self):
        for made in (Program(""), program("block", "end"), program("block", "local a", "end")):
            self.assertEqual(plain_pairs(made), [])

    def test_moving_a_cell(self):
        made = program("block", "block", "local a", "end", "end", "block", "local b", "end")
        self.assertEqual(plain_pairs(made.moved("a")), [("a", "b")])
        self.assertEqual(plain_pairs(made.moved("a").moved("a")), [])
        self.assertEqual(plain_pairs(made.moved("b")), [])

    def test_against_the_second_reading(self):
        tried = 0
        for seed in range(2000):
            draw = Random(seed)
            text = made_nest(seed, draw.randint(4, 16), draw.randint(2, 5))
            if text.count("\n") < 40:
                self.assertEqual(plain_pairs(Program(text)), plain_in(text), text)
                tried += len(plain_in(text)) > 1
        self.assertGreater(tried, 300)


class WrongPairs(unittest.TestCase):
    def test_plain_or_not(self):
        made = program("local p r", "block", "local x", "input x", "point p to x", "end", "block", "local y", "input y",
                       "end", "load r from p")
        self.assertEqual(wrong_pairs(made), [("p", "x"), ("p", "y"), ("x", "y")])
        self.assertEqual(wrong_pairs(program("local b a", "input b", "input a", "use b")), [("a", "b")])
        self.assertEqual(wrong_pairs(program("local b a", "input b", "input a", "use a")), [])

    def test_a_pair_of_a_right_lot(self):
        made = program("local a x y z", "input a", "copy a to x", "input y", "copy a to z", "use x")
        self.assertIs(is_right(made, ["x", "y", "z"]), True)
        self.assertEqual(wrong_pairs(made), [("a", "y"), ("x", "y")])

    def test_order(self):
        lines = [f"input {cell}" for cell in "edcba"] + [f"use {cell}" for cell in "edcba"]
        self.assertEqual(wrong_pairs(program("local d a e b c", *lines)), list(combinations("abcde", 2)))

    def test_few_cells(self):
        self.assertEqual(wrong_pairs(Program("")), [])
        self.assertEqual(wrong_pairs(program("local a", "use a", "input a")), [])

    def test_against_the_second_reading(self):
        tried = 0
        for seed in range(300):
            draw = Random(seed)
            made = small_program(made_program(seed, draw.choice([6, 10, 14]), draw.randint(2, 5)), 150)
            if made is not None:
                self.assertEqual(wrong_pairs(made), wrong_in(Search(made.text, True)), made.text)
                tried += 1
        self.assertGreater(tried, 150)


class Lengthen(unittest.TestCase):
    def check(self, made, count, ways):
        """The ways are those that are told, and those of the second reading."""
        self.assertEqual(lengthen(made), (count, ways))
        self.assertEqual(lengthened(made.text, wrong_pairs(made)), (count, ways))

    def test_nothing_must_be_moved(self):
        self.check(Program(""), 0, [[]])
        self.check(program("local a b", *kept("a"), *kept("b"), *kept("a")), 0, [[]])
        made = program("block", "local a", "input a", "use a", "end", "block", "local b", "input b", "use b", "end")
        self.assertEqual(plain_pairs(made), [("a", "b")])
        self.check(made, 0, [[]])

    def test_either_of_two_cells(self):
        made = program("loop", "block", "local a", *kept("a"), "end", "maybe", "local b", *kept("b"), "end", "end")
        self.assertEqual((plain_pairs(made), wrong_pairs(made)), ([("a", "b")], [("a", "b")]))
        self.check(made, 1, [[("a", 1)], [("b", 1)]])

    def test_the_two_sides_of_one_block(self):
        made = program("loop", "maybe", "local a", *kept("a"), "else", "local b", *kept("b"), "end", "end")
        self.check(made, 1, [[("a", 1)], [("b", 1)]])

    def test_several_cells(self):
        made = program("loop", *[line for cell in "acb" for line in ("block", "local " + cell, *kept(cell), "end")], "end")
        self.check(made, 2, [[("a", 1), ("b", 1)], [("a", 1), ("c", 1)], [("b", 1), ("c", 1)]])

    def test_all_but_one_of_five_cells(self):
        made = program("loop", *[line for cell in "edcba" for line in ("block", "local " + cell, *kept(cell), "end")], "end")
        ways = [[(cell, 1) for cell in "abcde" if cell != other] for other in "edcba"]
        self.check(made, 4, ways)

    def test_one_cell_by_several_blocks(self):
        made = program("loop", "block", "block", "local a", *kept("a"), "end", "end", "maybe", "block", "local b",
                       *kept("b"), "end", "end", "end")
        self.assertEqual(plain_pairs(made.moved("a").moved("b")), [("a", "b")])
        self.check(made, 2, [[("a", 2)], [("b", 2)]])

    def test_the_shorter_way(self):
        made = program("loop", "block", "block", "block", "local a", *kept("a"), "end", "end", "end", "block", "local b",
                       *kept("b"), "end", "end")
        self.check(made, 1, [[("b", 1)]])

    def test_five_blocks(self):
        deep = ["loop", "block", "block", "block", "block"]
        made = program(*deep, "local a", *kept("a"), "end", "end", "end", "end", "maybe", "maybe", "block", "block", "local b",
                       *kept("b"), "end", "end", "end", "end", "end")
        self.check(made, 4, [[("a", 4)], [("b", 4)]])
        deep = ["block"] * 5
        made = program(*deep, "local a", *kept("a"), *["end"] * 5, *deep, "local b", "use b", "use b", "point b to b",
                       *["end"] * 5)
        self.assertEqual(wrong_pairs(made), [("a", "b")])
        self.check(made, 5, [[("a", 5)], [("b", 5)]])

    def test_one_move_for_several_pairs(self):
        made = program("loop", "block", "local a", *kept("a"), "block", "local c", "input c", "use c", "end", "end", "block",
                       "local b", *kept("b"), "end", "end")
        self.assertEqual(plain_pairs(made), [("a", "b"), ("b", "c")])
        self.assertEqual(wrong_pairs(made), [("a", "b"), ("a", "c"), ("b", "c")])
        self.check(made, 1, [[("b", 1)]])

    def test_a_right_pair_may_stay_plain(self):
        made = program("loop", "block", "local a", *kept("a"), "end", "block", "local b", "input b", "use b", "end", "block",
                       "local c", "input c", "use c", "end", "end")
        self.assertEqual(plain_pairs(made), [("a", "b"), ("a", "c"), ("b", "c")])
        self.assertEqual(wrong_pairs(made), [("a", "b"), ("a", "c")])
        self.check(made, 1, [[("a", 1)]])

    def test_several_cells_by_several_blocks(self):
        made = program("loop", "block", "maybe", "local a", *kept("a"), "else", "local b", *kept("b"), "end", "end", "block",
                       "local c", *kept("c"), "end", "end")
        self.check(made, 2, [[("a", 1), ("c", 1)], [("b", 1), ("c", 1)]])
        made = program("loop", "block", "block", "local a", *kept("a"), "end", "end", "block", "block", "local b", *kept("b"),
                       "end", "end", "block", "block", "local c", *kept("c"), "end", "end", "end")
        self.check(made, 4, [[("a", 2), ("b", 2)], [("a", 2), ("c", 2)], [("b", 2), ("c", 2)]])

    def test_names_are_compared_as_texts(self):
        made = program("loop", "block", "local b", *kept("b"), "end", "block", "local aa", *kept("aa"), "end", "block",
                       "local a", *kept("a"), "end", "end")
        self.check(made, 2, [[("a", 1), ("aa", 1)], [("a", 1), ("b", 1)], [("aa", 1), ("b", 1)]])

    def test_texts_of_more_than_40_lines_on_the_way(self):
        made = program("loop", "block", "block", "local a c", *kept("a"), *["use a"] * 11, "end", "end", "block", "block",
                       "local b d", *kept("b"), *["use b"] * 11, "end", "end", "end")
        self.assertEqual(len(made.text.split("\n")), 38)
        self.check(made, 2, [[("a", 2)], [("b", 2)]])
        made = program(*made.text.split("\n"), "block", "end")
        self.assertEqual(len(made.moved("a").text.split("\n")), 41)
        self.assertEqual(len(made.moved("a").moved("b").text.split("\n")), 42)
        self.check(made, 2, [[("a", 2)], [("b", 2)]])
        self.check(made.moved("a").moved("b"), 1, [[("a", 1)], [("b", 1)]])
        self.assertEqual(plain_pairs(made.moved("a").moved("b")), plain_pairs(made))
        self.assertEqual(wrong_pairs(made.moved("a").moved("b")), wrong_pairs(made))

    def test_the_result_is_long_enough(self):
        made = program("loop", "block", "block", "local a", *kept("a"), "end", "end", "block", "local b", *kept("b"), "end",
                       "block", "local c", *kept("c"), "end", "end")
        count, ways = lengthen(made)
        self.assertEqual((count, ways), (2, [[("b", 1), ("c", 1)]]))
        for cell, many in ways[0]:
            for _ in range(many):
                made = made.moved(cell)
        self.assertEqual(lengthen(made), (0, [[]]))
        self.assertEqual(set(plain_pairs(made)) & set(wrong_pairs(made)), set())

    def check_made(self, make, seeds):
        moved = several = far = 0
        for seed in seeds:
            draw = Random(seed)
            made = small_program(make(seed, draw.randint(6, 15), draw.randint(3, 5)), 200)
            if made is not None:
                told = lengthen(made)
                self.assertEqual(told, lengthened(made.text, wrong_in(Search(made.text, True))), made.text)
                moved += told[0] > 0
                several += len(told[1]) > 1
                far += any(many > 1 for way in told[1] for _, many in way)
        return moved, several, far

    def test_against_the_second_reading(self):
        moved, several, far = self.check_made(made_nest, range(1500))
        self.assertGreater(min(moved, several, far), 20)
        self.check_made(made_program, range(300))


class Lists(unittest.TestCase):
    def test_lists_are_new(self):
        made = program("loop", "maybe", "local a", *kept("a"), "else", "local b", *kept("b"), "end", "end")
        for ask in (plain_pairs, wrong_pairs):
            ask(made).append(("c", "d"))
            self.assertEqual(ask(made), [("a", "b")])
            self.assertEqual([type(pair) for pair in ask(made)], [tuple])
        told = lengthen(made)
        self.assertEqual([type(told), type(told[1]), type(told[1][0]), type(told[1][0][0])], [tuple, list, list, tuple])
        told[1][0].append(("b", 7))
        self.assertEqual(told[1][1], [("b", 1)])
        told[1].clear()
        self.assertEqual(lengthen(made), (1, [[("a", 1)], [("b", 1)]]))
        lengthen(Program(""))[1][0].append(("a", 1))
        self.assertEqual(lengthen(Program("")), (0, [[]]))
        plain_pairs(Program("")).append(1)
        wrong_pairs(Program("")).append(1)
        self.assertEqual((plain_pairs(Program("")), wrong_pairs(Program(""))), ([], []))


if __name__ == "__main__":
    unittest.main()
