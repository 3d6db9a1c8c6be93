"""Point 9: runs in a layout, and the errors for lots and layouts."""

import unittest
from random import Random

from frameplaces.errors import BadLot, NoCell
from frameplaces.frames import is_right_layout
from frameplaces.lots import is_right, wrong_lines, wrong_run
from frameplaces.programs import Program
from generated import made_program
from independent import Replay


def program(*lines):
    return Program("\n".join(lines))


def made_layout(draw, cells):
    """Some lots without a common cell."""
    names = draw.sample(cells, len(cells))
    lots = []
    while names:
        many = draw.randint(1, len(names))
        lot, names = names[:many], names[many:]
        if draw.random() < 0.8:
            lots.append(lot)
    return lots


class RunsInALayout(unittest.TestCase):
    def test_a_read_that_differs(self):
        made = program("local a b", "input a", "input b", "use a")
        self.assertEqual(made.run([1, 2]), [("write", 2, "a", 1), ("write", 3, "b", 2), ("read", 4, "a", 1)])
        self.assertEqual(made.run([1, 2], layout=[["b", "a"]])[-1], ("read", 4, "a", 2))
        self.assertEqual(made.run([1, 1], layout=[["b", "a"]]), made.run([1, 1]))

    def test_a_cell_that_was_never_written(self):
        made = program("local a b", "use a", "input b", "use a")
        self.assertEqual(made.run([3], layout=[["a", "b"]]), [
            ("read", 2, "a", None), ("write", 3, "b", 3), ("read", 4, "a", 3),
        ])

    def test_a_same_that_differs(self):
        made = program("local p q x y", "point p to x", "point q to y", "same p q", "use x", "else", "use y", "end")
        self.assertEqual(made.run([])[-2:], [("same", 4, None, False), ("read", 7, "y", None)])
        self.assertEqual(made.run([], layout=[["y", "x"]])[-2:], [("same", 4, None, True), ("read", 5, "x", None)])
        self.assertEqual(made.run([], layout=[["y"], ["x"]]), made.run([]))
        self.assertEqual(made.run([], layout=[["x", "y"]])[:4], made.run([])[:4])

    def test_a_same_by_the_worths_that_are_read(self):
        made = program("local a b", "input a", "input b", "same a b", "use a", "end")
        self.assertEqual(made.run([1, 2], layout=[["a", "b"]])[2:], [
            ("read", 4, "a", 2), ("read", 4, "b", 2), ("same", 4, None, True), ("read", 5, "a", 2),
        ])

    def test_addresses_go_to_places(self):
        made = program("local p x y r", "point p to x", "input y", "load r from p", "store r to p", "use y")
        self.assertEqual(made.run([6], layout=[["x", "y"]])[2:], [
            ("read", 4, "p", "&x"), ("read", 4, "x", 6), ("write", 4, "r", 6), ("read", 5, "p", "&x"), ("read", 5, "r", 6),
            ("write", 5, "x", 6), ("read", 6, "y", 6),
        ])

    def test_where_a_run_stops(self):
        made = program("local p q", "point p to p", "input q", "load q from p", "use q")
        self.assertEqual(made.run([1], layout=[["p", "q"]]), [
            ("write", 2, "p", "&p"), ("write", 3, "q", 1), ("read", 4, "p", 1),
        ])
        made = program("local p q r", "input p", "point q to r", "store r to p", "use r")
        self.assertEqual(made.run([1])[-1], ("read", 4, "p", 1))
        self.assertEqual(made.run([1], layout=[["p", "q"]])[2:], [
            ("read", 4, "p", "&r"), ("read", 4, "r", None), ("write", 4, "r", None), ("read", 5, "r", None),
        ])

    def test_what_becomes_known(self):
        made = program("local p q x", "input p", "point q to x", "call p", "use x")
        self.assertEqual(made.run([1, 1, 0, 5, 0])[-1], ("read", 5, "x", None))
        self.assertEqual(made.run([1, 1, 0, 5, 0], layout=[["p", "q"]])[2:], [
            ("read", 4, "p", "&x"), ("write", 4, "x", 5), ("read", 5, "x", 5),
        ])

    def test_only_the_named_cell_becomes_known(self):
        made = program("local p x y", "point p to x", "call p", "use y")
        self.assertEqual(made.run([1, 0, 5, 2], layout=[["x", "y"]])[2:], [("write", 3, "x", 5), ("read", 4, "y", 5)])
        made = program("local p x y", "point p to x", "point y to p", "call p")
        self.assertEqual(made.run([1, -1, 1, 2], layout=[["y", "x"]])[2:], [
            ("read", 4, "p", "&x"), ("read", 4, "x", "&p"), ("write", 4, "p", "&x"),
        ])

    def test_lots_of_one_cell_and_the_empty_layout(self):
        made = program("local a b", "input a", "input b", "use a", "use b")
        own = made.run([1, 2])
        self.assertEqual(made.run([1, 2], layout=[]), own)
        self.assertEqual(made.run([1, 2], layout=()), own)
        self.assertEqual(made.run([1, 2], layout=[["a"]]), own)
        self.assertEqual(made.run([1, 2], layout=[["b"], ["a"]]), own)

    def test_several_lots(self):
        made = program("local a b c d", "input a", "input b", "input c", "input d", "use a", "use b", "use c", "use d")
        events = made.run([1, 2, 3, 4], layout=[("a", "c"), ["d", "b"]])
        self.assertEqual([event[3] for event in events[4:]], [3, 4, 3, 4])

    def test_against_the_second_reading(self):
        for seed in range(1500):
            draw = Random(seed)
            text = made_program(seed, draw.choice([4, 9, 14]), draw.randint(2, 5))
            made = Program(text)
            for _ in range(4):
                choices = [draw.randint(-1, 4) for _ in range(draw.randint(0, 30))]
                layout = made_layout(draw, list(made.cells))
                told = Replay(text, choices, layout).events()
                self.assertEqual(made.run(choices, layout=layout), told, (text, choices, layout))
                self.assertEqual(list(made.steps(choices, layout=layout)), told)


LAYOUTS = (
    ([["z"]], "name", "z"),
    ([[]], "index", 0),
    ([["a"], []], "index", 1),
    ([["a", "a"]], "index", 0),
    ([["a"], ["b", "b"]], "index", 1),
    ([["a", "b"], ["c", "a"]], "index", 1),
    ([["a"], ["b"], ["a"]], "index", 2),
    ([["a"], ["a"], []], "index", 1),
    ([["a", "a"], ["z"]], "name", "z"),
    ([["a", "y", "z"], ["x"]], "name", "y"),
    ([[], ["a", "a"], ["x", "y"]], "name", "x"),
    ([["a"], ["b", "b"], ["a"]], "index", 1),
    ([["a", ""]], "name", ""),
    ([["&a"]], "name", "&a"),
)
LOTS = ((["z"], "name", "z"), ([], "index", 0), (["a", "a"], "index", 0), (["a", "a", "y", "z"], "name", "y"),
        (("b", "a", "b"), "index", 0))


class Errors(unittest.TestCase):
    def check(self, field, worth, call):
        with self.assertRaises(NoCell if field == "name" else BadLot) as caught:
            call()
        self.assertEqual(vars(caught.exception), {field: worth})

    def test_layouts(self):
        made = program("local a b c", "input a")
        for layout, field, worth in LAYOUTS:
            self.check(field, worth, lambda: made.run([1], layout=layout))
            self.check(field, worth, lambda: made.run([], layout=layout))
            self.check(field, worth, lambda: next(made.steps([1], layout=layout)))
            self.check(field, worth, lambda: is_right_layout(made, layout))
        self.check("name", "a", lambda: Program("").run([], layout=[["a"]]))
        self.check("index", 0, lambda: Program("").run([], layout=[[]]))
        self.check("name", "a", lambda: is_right_layout(Program(""), [["a"]]))
        self.check("index", 0, lambda: is_right_layout(Program(""), [[]]))

    def test_a_wrong_lot_ahead_of_an_error(self):
        made = program("local a b c", "input a", "input b", "use a")
        self.assertIs(is_right_layout(made, [["a", "b"]]), False)
        self.check("name", "z", lambda: is_right_layout(made, [["a", "b"], ["z"]]))
        self.check("index", 1, lambda: is_right_layout(made, [["a", "b"], ["c", "c"]]))
        self.check("index", 2, lambda: is_right_layout(made, [["a", "b"], ["c"], []]))

    def test_lots(self):
        made = program("local a b c", "input a")
        for call in (wrong_run, is_right, wrong_lines):
            for lot, field, worth in LOTS:
                self.check(field, worth, lambda: call(made, lot))
                self.check(field, worth, lambda: is_right_layout(made, [lot]))
        self.check("index", 0, lambda: is_right(Program(""), []))
        self.check("name", "a", lambda: is_right(Program(""), ["a"]))

    def test_nothing_has_changed(self):
        made = program("local a b", "input a", "use b")
        layout = [["a", "b"], ["a"]]
        self.check("index", 1, lambda: made.run([1], layout=layout))
        self.assertEqual(layout, [["a", "b"], ["a"]])
        self.assertEqual(made.run([1]), [("write", 2, "a", 1), ("read", 3, "b", None)])


if __name__ == "__main__":
    unittest.main()
