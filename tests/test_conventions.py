"""Point 2: what holds for every call."""

import inspect
import unittest

from frameplaces import desks, frames, lots, plain, programs
from frameplaces.desks import Desk
from frameplaces.errors import Barred
from frameplaces.frames import is_right_layout, smallest_frames
from frameplaces.lots import is_right, right_lots, wrong_lines, wrong_run
from frameplaces.plain import lengthen, plain_pairs, wrong_pairs
from frameplaces.programs import Program

SOURCE = "local a x y z\ninput a\ncopy a to x\ninput y\ncopy a to z\nuse x"
GREAT = 10 ** 1000 - 1


class Interface(unittest.TestCase):
    def test_defined_where_it_is_listed(self):
        for name in ("wrong_run", "is_right", "wrong_lines", "right_lots"):
            self.assertEqual(getattr(lots, name).__module__, "frameplaces.lots")
        for name in ("is_right_layout", "smallest_frames"):
            self.assertEqual(getattr(frames, name).__module__, "frameplaces.frames")
        for name in ("plain_pairs", "wrong_pairs", "lengthen"):
            self.assertEqual(getattr(plain, name).__module__, "frameplaces.plain")
        self.assertEqual(programs.Program.__module__, "frameplaces.programs")
        for name in ("run", "steps", "opened_at", "moved"):
            self.assertIn(name, vars(Program))
        self.assertEqual(desks.Desk.__module__, "frameplaces.desks")
        for name in ("program", "put", "drop", "move_out", "add_guard", "drop_guard", "guards", "undo", "attempt"):
            self.assertIn(name, vars(Desk))

    def test_arguments(self):
        self.assertEqual(str(inspect.signature(Program)), "(text)")
        for method in (Program.run, Program.steps):
            self.assertEqual(str(inspect.signature(method)), "(self, choices, *, layout=())")
        for method in (Program.opened_at, Program.moved):
            self.assertEqual(str(inspect.signature(method)), "(self, cell)")
        for function in (wrong_run, is_right, wrong_lines):
            self.assertEqual(str(inspect.signature(function)), "(program, lot)")
        for function in (right_lots, smallest_frames, plain_pairs, wrong_pairs, lengthen, Desk):
            self.assertEqual(str(inspect.signature(function)), "(program)")
        self.assertEqual(str(inspect.signature(is_right_layout)), "(program, layout)")
        for method, told in (
            (Desk.put, "(self, line, text)"), (Desk.drop, "(self, first, last)"), (Desk.move_out, "(self, cell)"),
            (Desk.add_guard, "(self, name, lot)"), (Desk.drop_guard, "(self, name)"), (Desk.guards, "(self)"),
            (Desk.undo, "(self)"), (Desk.attempt, "(self, action)"),
        ):
            self.assertEqual(str(inspect.signature(method)), told)


class Lists(unittest.TestCase):
    def test_arguments_stay_as_they_are(self):
        program = Program(SOURCE)
        choices, layout, lot = [5, 7], [["x", "y"], ["a"]], ["y", "x"]
        program.run(choices, layout=layout)
        list(program.steps(choices, layout=layout))
        wrong_run(program, lot)
        is_right(program, lot)
        wrong_lines(program, lot)
        is_right_layout(program, layout)
        self.assertEqual((choices, layout, lot), ([5, 7], [["x", "y"], ["a"]], ["y", "x"]))
        lot = ["z", "x", "y"]
        desk = Desk(program)
        desk.add_guard("one", lot)
        with self.assertRaises(Barred):
            desk.add_guard("two", lot[1:])
        desk.put(7, "use z")
        self.assertEqual(lot, ["z", "x", "y"])

    def test_tuples_are_taken(self):
        program = Program(SOURCE)
        self.assertEqual(program.run((5, 7)), program.run([5, 7]))
        for layout in ((("x", "y"),), [("x", "y")], (["x", "y"],)):
            self.assertEqual(program.run((5, 7), layout=layout), program.run([5, 7], layout=[["x", "y"]]))
            self.assertEqual(list(program.steps((5, 7), layout=layout)), program.run([5, 7], layout=[["x", "y"]]))
        lot = ("x", "y")
        self.assertEqual(wrong_lines(program, lot), wrong_lines(program, ["x", "y"]))
        self.assertIs(is_right(program, lot), False)
        self.assertEqual(wrong_run(program, lot), wrong_run(program, ["x", "y"]))
        for layout in ((("x", "z"), ("a",)), [("x", "z")], (["x", "z"],), ()):
            self.assertIs(is_right_layout(program, layout), True)
        desk = Desk(program)
        desk.add_guard("one", ("x", "z"))
        with self.assertRaises(Barred):
            desk.put(6, "use x\ninput z\nuse x")

    def test_returned_lists_are_new(self):
        program = Program(SOURCE)
        nest = Program("loop\nmaybe\nlocal a\nuse a\ninput a\nelse\nlocal b\nuse b\ninput b\nend\nend")
        desk = Desk(program)
        desk.add_guard("one", ["a"])
        for ask in (
            lambda: program.run([5, 7]),
            lambda: program.run([5, 7], layout=[["x", "y"]]),
            lambda: list(program.steps([5, 7])),
            lambda: wrong_run(program, ["x", "y"]),
            lambda: wrong_lines(program, ["x", "y"]),
            lambda: right_lots(program),
            lambda: smallest_frames(program),
            lambda: smallest_frames(program)[0],
            lambda: wrong_pairs(program),
            lambda: plain_pairs(nest),
            lambda: lengthen(nest)[1],
            lambda: lengthen(nest)[1][0],
            lambda: desk.guards(),
        ):
            first = ask()
            kept = list(first)
            self.assertTrue(kept)
            first.append(99)
            first[0] = 98
            self.assertEqual(ask(), kept)
        inner = right_lots(program)
        inner[0].append("z")
        inner[1].clear()
        self.assertEqual(right_lots(program)[:2], [["a", "x"], ["a", "x", "z"]])
        self.assertEqual(program.cells, ("a", "x", "y", "z"))

    def test_no_empty_list_is_shared(self):
        program = Program("local a b\nuse a")
        wrong_lines(program, ["a", "b"]).append(1)
        self.assertEqual(wrong_lines(program, ["a", "b"]), [])
        Program("").run([]).append(1)
        self.assertEqual(Program("").run([]), [])
        for ask in (right_lots, plain_pairs, wrong_pairs):
            ask(Program("")).append(1)
            self.assertEqual(ask(Program("")), [])
        desk = Desk(program)
        desk.guards().append("one")
        self.assertEqual((desk.guards(), Desk(program).guards()), ([], []))

    def test_kinds(self):
        program = Program(SOURCE + "\nsame x y\nend")
        for event in program.run([5, 7]):
            self.assertIs(type(event), tuple)
            self.assertEqual(len(event), 4)
        self.assertIs(type(program.run([5, 7])), list)
        self.assertIs(type(program.run([5, 7])[-1][3]), bool)
        self.assertEqual({type(line) for line in wrong_lines(program, ["x", "y"])}, {int})
        self.assertEqual({type(choice) for choice in wrong_run(program, ["x", "y"])}, {int})
        self.assertEqual({type(lot) for lot in right_lots(program)}, {list})
        self.assertIs(type(is_right_layout(program, [["x", "y"]])), bool)
        self.assertEqual({type(pair) for pair in wrong_pairs(program)}, {tuple})
        self.assertEqual([type(part) for part in lengthen(program)], [int, list])
        self.assertIs(type(lengthen(program)), tuple)

    def test_calls_of_which_no_result_is_told(self):
        desk = Desk(Program("local a\nblock\nlocal b\nend"))
        self.assertEqual([desk.put(2, "use a"), desk.drop(2, 2), desk.add_guard("one", ["b"]), desk.move_out("b"),
                          desk.drop_guard("one"), desk.undo()], [None] * 6)


class Limits(unittest.TestCase):
    def test_integers_of_1000_digits(self):
        program = Program("local a b\ninput a\ncopy a to b\nsame a b\nuse b\nend")
        for worth in (GREAT, -GREAT, 0, -1):
            self.assertEqual(program.run([worth])[-1], ("read", 5, "b", worth))
        asked = Program("local p x\npoint p to x\ncall p\nuse x")
        self.assertEqual(asked.run([1, 0, GREAT, 1, -GREAT, GREAT])[2:], [
            ("write", 3, "x", GREAT), ("read", 3, "x", GREAT), ("read", 4, "x", GREAT),
        ])

    def test_300_choices(self):
        program = Program("local a b\nloop\ninput a\ncopy a to b\nend")
        events = program.run([choice for worth in range(1, 151) for choice in (1, worth)])
        self.assertEqual(len(events), 450)
        self.assertEqual(events[-1], ("write", 4, "b", 150))
        asked = Program("local p x\npoint p to x\ncall p")
        self.assertEqual(len(asked.run([1, 0, 5] * 100)), 102)

    def test_asked_again_and_again(self):
        program = Program(SOURCE)
        desk = Desk(program)

        def answers():
            return [program.run([5, 7]), right_lots(program), wrong_run(program, ["x", "y"]), smallest_frames(program),
                    is_right_layout(program, [["x", "y"]]), plain_pairs(program), wrong_pairs(program), lengthen(program),
                    desk.guards(), desk.program.text]
        first = answers()
        for _ in range(3):
            self.assertEqual(answers(), first)
        self.assertEqual((program.text, program.cells), (SOURCE, ("a", "x", "y", "z")))


if __name__ == "__main__":
    unittest.main()
