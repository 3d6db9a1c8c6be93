"""Points 14 and 15: a desk, its edits, its guards, and undo."""

import unittest

from frameplaces.desks import Desk
from frameplaces.errors import (
    BadLot, BadName, BadProgram, Barred, NoCell, NoGuard, NoLine, NothingToUndo, Outermost, Taken,
)
from frameplaces.lots import is_right
from frameplaces.programs import Program

SOURCE = "local a b\ninput a\nuse a\ninput b\nuse b"
GREAT = 10 ** 999


def text(*lines):
    return "\n".join(lines)


def desk_of(*lines):
    return Desk(Program(text(*lines)))


class DeskTest(unittest.TestCase):
    def refused(self, desk, kind, fields, method, *given):
        """The call raises this error, and nothing has changed."""
        before = (desk.program, desk.guards())
        with self.assertRaises(kind) as caught:
            getattr(desk, method)(*given)
        self.assertIs(type(caught.exception), kind)
        self.assertEqual(vars(caught.exception), fields)
        self.assertEqual((desk.program, desk.guards()), before)

    def accepted(self, desk, expected, method, *given):
        """The call returns None, the text is the expected one then, and the call can be undone and done again."""
        before = (desk.program, desk.guards())
        self.assertIsNone(getattr(desk, method)(*given))
        after = (desk.program, desk.guards())
        self.assertEqual(desk.program.text, expected)
        self.assertIsNone(desk.undo())
        self.assertEqual((desk.program, desk.guards()), before)
        getattr(desk, method)(*given)
        self.assertEqual((desk.program, desk.guards()), after)


class PresentProgram(DeskTest):
    def test_a_new_desk(self):
        program = Program(SOURCE)
        desk = Desk(program)
        self.assertEqual((desk.program, desk.program.text, desk.guards()), (program, SOURCE, []))
        self.assertIsInstance(Desk.program, property)
        self.refused(desk, NothingToUndo, {}, "undo")

    def test_the_program_itself_stays(self):
        program = Program(SOURCE)
        desk = Desk(program)
        desk.put(2, "use b")
        seen = desk.program
        desk.drop(1, 6)
        self.assertEqual((program.text, program.cells), (SOURCE, ("a", "b")))
        self.assertEqual(seen.text, "local a b\nuse b\ninput a\nuse a\ninput b\nuse b")
        self.assertEqual(desk.program, Program(""))

    def test_what_the_program_can_do(self):
        desk = desk_of("local a", "block", "local b", "end")
        desk.put(4, "input b\nuse b")
        desk.move_out("b")
        self.assertEqual(desk.program.run([4]), [("write", 3, "b", 4), ("read", 4, "b", 4)])
        self.assertEqual((desk.program.cells, desk.program.opened_at("b")), (("a", "b"), 0))


class Put(DeskTest):
    def test_one_line(self):
        lines = SOURCE.split("\n")
        for line in range(2, 7):
            expected = text(*lines[:line - 1], "use a", *lines[line - 1:])
            self.accepted(Desk(Program(SOURCE)), expected, "put", line, "use a")

    def test_several_lines(self):
        self.accepted(Desk(Program(SOURCE)), text("local a b", "loop", "use b", "end", "input a", "use a", "input b", "use b"),
                      "put", 2, "loop\nuse b\nend")
        self.accepted(Desk(Program(SOURCE)), SOURCE + "\nuse a\nuse b\nuse a", "put", 6, "use a\nuse b\nuse a")

    def test_ahead_of_the_first_line(self):
        self.accepted(desk_of("block", "end"), text("loop", "end", "block", "end"), "put", 1, "loop\nend")
        self.accepted(desk_of("block", "end"), text("local a", "block", "end"), "put", 1, "local a")
        self.accepted(desk_of("block", "end"), text("local a", "use a", "block", "end"), "put", 1, "local a\nuse a")
        self.refused(Desk(Program(SOURCE)), BadProgram, {"line": 3}, "put", 1, "block\nend")
        self.refused(Desk(Program(SOURCE)), BadProgram, {"line": 2}, "put", 1, "local c")
        self.refused(Desk(Program(SOURCE)), BadProgram, {"line": 1}, "put", 1, "use a")

    def test_into_an_empty_text(self):
        self.accepted(desk_of(), "local a", "put", 1, "local a")
        self.accepted(desk_of(), "block\nend", "put", 1, "block\nend")
        self.refused(desk_of(), NoLine, {"line": 2}, "put", 2, "local a")
        self.refused(desk_of(), NoLine, {"line": 0}, "put", 0, "local a")
        self.refused(desk_of(), BadProgram, {"line": 2}, "put", 1, "block")

    def test_a_first_line_of_a_block(self):
        self.accepted(desk_of("maybe", "else", "end"), "maybe\nelse\nlocal a\nend", "put", 3, "local a")
        self.refused(desk_of("maybe", "else", "end"), BadProgram, {"line": 4}, "put", 4, "local a")

    def test_an_empty_line(self):
        self.refused(Desk(Program(SOURCE)), BadProgram, {"line": 4}, "put", 3, "use a\n\nuse a")
        self.refused(Desk(Program(SOURCE)), BadProgram, {"line": 3}, "put", 3, "\nuse a")
        self.refused(Desk(Program(SOURCE)), BadProgram, {"line": 4}, "put", 3, "use a\n")
        self.refused(Desk(Program(SOURCE)), BadProgram, {"line": 6}, "put", 6, "\n")
        self.refused(Desk(Program(SOURCE)), BadProgram, {"line": 7}, "put", 6, "use a\n")

    def test_no_line(self):
        for line in (0, -1, 7, 8, GREAT, -GREAT):
            self.refused(Desk(Program(SOURCE)), NoLine, {"line": line}, "put", line, "use a")
            self.refused(Desk(Program(SOURCE)), NoLine, {"line": line}, "put", line, "what")

    def test_the_line_in_the_text_as_it_would_be(self):
        desk = Desk(Program(SOURCE))
        self.refused(desk, BadProgram, {"line": 5}, "put", 3, "use a\nuse b\nuse c")
        self.refused(desk, BadProgram, {"line": 9}, "put", 3, "loop\nuse a\nmaybe")
        self.refused(desk, BadProgram, {"line": 3}, "put", 3, "end")
        # The first wrong line is one of those that stood there.
        self.refused(desk_of("local a", "block", "end"), BadProgram, {"line": 5}, "put", 3, "end\nuse a")
        self.refused(desk_of("block", "local a", "use a", "end"), BadProgram, {"line": 4}, "put", 2, "block\nend")

    def test_line_41(self):
        lines = ["local a", *["use a"] * 38]
        self.accepted(desk_of(*lines), text(*lines, "use a"), "put", 40, "use a")
        self.refused(desk_of(*lines), BadProgram, {"line": 41}, "put", 40, "use a\nuse a")
        self.refused(desk_of(*lines, "use a"), BadProgram, {"line": 41}, "put", 2, "use a")
        self.refused(desk_of(*lines, "use a"), BadProgram, {"line": 2}, "put", 2, "use b")
        self.refused(desk_of(*lines, "use a"), BadProgram, {"line": 41}, "put", 41, "use b")
        # A lacking end counts only behind the last line.
        self.refused(desk_of(*lines), BadProgram, {"line": 41}, "put", 40, "loop")
        self.refused(desk_of(*lines), BadProgram, {"line": 41}, "put", 40, "loop\nend\nuse b")


class Drop(DeskTest):
    def test_one_line(self):
        lines = SOURCE.split("\n")
        for line in range(2, 6):
            expected = text(*lines[:line - 1], *lines[line:])
            self.accepted(Desk(Program(SOURCE)), expected, "drop", line, line)

    def test_several_lines(self):
        self.accepted(Desk(Program(SOURCE)), "local a b\nuse b", "drop", 2, 4)
        self.accepted(Desk(Program(SOURCE)), "local a b", "drop", 2, 5)

    def test_all_lines(self):
        self.accepted(Desk(Program(SOURCE)), "", "drop", 1, 5)
        self.accepted(desk_of("block", "end"), "", "drop", 1, 2)

    def test_a_first_line(self):
        self.accepted(desk_of("local a", "block", "local b", "end"), "block\nlocal b\nend", "drop", 1, 1)
        self.accepted(desk_of("block", "local b", "end"), "block\nend", "drop", 2, 2)
        self.refused(Desk(Program(SOURCE)), BadProgram, {"line": 1}, "drop", 1, 1)
        self.refused(desk_of("local a", "block", "local b", "end"), BadProgram, {"line": 2}, "drop", 2, 2)

    def test_a_lacking_end(self):
        desk = desk_of("local a", "loop", "use a", "end")
        self.refused(desk, BadProgram, {"line": 4}, "drop", 4, 4)
        self.refused(desk, BadProgram, {"line": 3}, "drop", 3, 4)
        self.refused(desk, BadProgram, {"line": 3}, "drop", 2, 2)
        self.accepted(desk, "local a", "drop", 2, 4)

    def test_no_line(self):
        for first in (0, -1, 6, 7, GREAT, -GREAT):
            for last in (first, 0, 3, 9):
                self.refused(Desk(Program(SOURCE)), NoLine, {"line": first}, "drop", first, last)
        for first, last in ((3, 2), (1, 0), (2, -1), (5, 6), (1, 6), (1, GREAT), (4, -GREAT), (5, 4)):
            self.refused(Desk(Program(SOURCE)), NoLine, {"line": last}, "drop", first, last)
        self.refused(desk_of(), NoLine, {"line": 1}, "drop", 1, 1)
        self.refused(desk_of(), NoLine, {"line": 0}, "drop", 0, 0)

    def test_line_41_from_a_longer_text(self):
        lines = ["block", "local b", "block", "local a c", *["use a"] * 34, "end", "end"]
        desk = desk_of(*lines)
        desk.move_out("b")
        desk.move_out("a")
        self.assertEqual(desk.program.text.split("\n")[:6], ["local b", "block", "local a", "block", "local c", "use a"])
        self.assertEqual(len(desk.program.text.split("\n")), 41)
        self.accepted(desk, text("local b", "block", "local a", "block", "local c", *["use a"] * 33, "end", "end"),
                      "drop", 8, 8)
        lines = ["block", "block", "block", "local a b c", *["use a"] * 33, "end", "end", "end"]
        desk = desk_of(*lines)
        desk.move_out("b")
        desk.move_out("b")
        desk.move_out("c")
        self.assertEqual(desk.program.text.split("\n")[:6], ["block", "local b", "block", "local c", "block", "local a"])
        self.assertEqual(len(desk.program.text.split("\n")), 42)
        self.refused(desk, BadProgram, {"line": 41}, "drop", 7, 7)
        self.refused(desk, BadProgram, {"line": 41}, "put", 7, "use a")
        self.refused(desk, BadProgram, {"line": 6}, "drop", 6, 6)
        self.refused(desk, NoLine, {"line": 43}, "drop", 43, 43)
        self.refused(desk, NoLine, {"line": 44}, "put", 44, "use a")
        self.refused(desk, BadProgram, {"line": 41}, "put", 43, "use a")
        self.accepted(desk, text("block", "local b", "block", "local c", "block", "local a", *["use a"] * 31, "end", "end",
                                 "end"), "drop", 7, 8)


class MoveOut(DeskTest):
    def test_by_one_block(self):
        desk = desk_of("local a", "block", "local b", "block", "local c", "end", "end")
        self.accepted(desk, text("local a", "block", "local b c", "block", "end", "end"), "move_out", "c")
        self.accepted(desk, text("local a c", "block", "local b", "block", "end", "end"), "move_out", "c")
        self.accepted(desk, text("local a c b", "block", "block", "end", "end"), "move_out", "b")
        self.refused(desk, Outermost, {"name": "c"}, "move_out", "c")
        self.refused(desk, Outermost, {"name": "a"}, "move_out", "a")

    def test_no_cell(self):
        for name in ("z", "", "local", "&a"):
            self.refused(Desk(Program(SOURCE)), NoCell, {"name": name}, "move_out", name)
            self.refused(desk_of(), NoCell, {"name": name}, "move_out", name)

    def test_beyond_40_lines(self):
        desk = desk_of("block", "block", "local a b", *["use a"] * 35, "end", "end")
        self.accepted(desk, text("block", "local b", "block", "local a", *["use a"] * 35, "end", "end"), "move_out", "b")
        self.accepted(desk, text("block", "local b a", "block", *["use a"] * 35, "end", "end"), "move_out", "a")

    def test_guards_are_kept(self):
        desk = desk_of("local a", "block", "local b", "input b", "use b", "end", "input a", "use a")
        desk.add_guard("both", ["a", "b"])
        desk.add_guard("inner", ["b"])
        self.accepted(desk, text("local a b", "block", "input b", "use b", "end", "input a", "use a"), "move_out", "b")
        self.assertEqual(desk.guards(), ["both", "inner"])
        self.refused(desk, Barred, {"names": ["both"]}, "put", 8, "use b")


class Guards(DeskTest):
    def test_names_in_ascending_order(self):
        desk = Desk(Program(SOURCE))
        for name in ("m", "b", "a", "ab", "zz", "abcdefghijkl", "aa"):
            self.accepted(desk, SOURCE, "add_guard", name, ["a", "b"])
        self.assertEqual(desk.guards(), ["a", "aa", "ab", "abcdefghijkl", "b", "m", "zz"])
        self.accepted(desk, SOURCE, "drop_guard", "ab")
        self.assertEqual(desk.guards(), ["a", "aa", "abcdefghijkl", "b", "m", "zz"])

    def test_bad_name(self):
        words = "local block loop maybe same else end input copy point load store use call to from".split()
        for name in ("", "A", "aB", "a b", "a1", "a-b", "_", "abcdefghijklm", " a", "a ", "&a", "a\n", *words):
            self.refused(Desk(Program(SOURCE)), BadName, {"name": name}, "add_guard", name, ["a"])

    def test_taken(self):
        desk = Desk(Program(SOURCE))
        desk.add_guard("one", ["a", "b"])
        self.refused(desk, Taken, {"name": "one"}, "add_guard", "one", ["a", "b"])
        self.refused(desk, Taken, {"name": "one"}, "add_guard", "one", ["b"])
        desk.drop_guard("one")
        desk.add_guard("one", ["b"])
        self.assertEqual(desk.guards(), ["one"])

    def test_no_cell_and_bad_lot(self):
        desk = Desk(Program(SOURCE))
        self.refused(desk, NoCell, {"name": "z"}, "add_guard", "one", ["z"])
        self.refused(desk, NoCell, {"name": "y"}, "add_guard", "one", ["a", "a", "y", "z"])
        self.refused(desk, BadLot, {"index": 0}, "add_guard", "one", [])
        self.refused(desk, BadLot, {"index": 0}, "add_guard", "one", ["b", "b"])
        self.refused(desk_of(), NoCell, {"name": "a"}, "add_guard", "one", ["a"])
        self.refused(desk_of(), BadLot, {"index": 0}, "add_guard", "one", [])

    def test_a_wrong_lot(self):
        desk = desk_of("local a b c", "input a", "input b", "use a", "use c")
        self.refused(desk, Barred, {"names": ["one"]}, "add_guard", "one", ["a", "b"])
        self.refused(desk, Barred, {"names": ["one"]}, "add_guard", "one", ("a", "b", "c"))
        self.assertEqual(desk.guards(), [])

    def test_several_errors_at_once(self):
        desk = desk_of("local a b", "input a", "input b", "use a")
        desk.add_guard("one", ["a"])
        self.refused(desk, BadName, {"name": "One"}, "add_guard", "One", ["z"])
        self.refused(desk, BadName, {"name": ""}, "add_guard", "", [])
        self.refused(desk, BadName, {"name": "end"}, "add_guard", "end", ["a", "b"])
        self.refused(desk, Taken, {"name": "one"}, "add_guard", "one", ["z", "a", "a"])
        self.refused(desk, Taken, {"name": "one"}, "add_guard", "one", [])
        self.refused(desk, Taken, {"name": "one"}, "add_guard", "one", ["a", "b"])
        self.refused(desk, NoCell, {"name": "z"}, "add_guard", "two", ["a", "a", "b", "z"])
        self.refused(desk, BadLot, {"index": 0}, "add_guard", "two", ["a", "b", "a"])
        self.refused(desk, Barred, {"names": ["two"]}, "add_guard", "two", ["a", "b"])

    def test_a_lot_with_wrong_pairs(self):
        desk = desk_of("local a x y z", "input a", "copy a to x", "input y", "copy a to z", "use x")
        desk.add_guard("three", ["z", "x", "y"])
        self.refused(desk, Barred, {"names": ["two"]}, "add_guard", "two", ["x", "y"])
        self.refused(desk, Barred, {"names": ["three"]}, "drop", 5, 5)
        self.refused(desk, Barred, {"names": ["three"]}, "put", 5, "use x")
        self.accepted(desk, "local a x y z\ninput a\ncopy a to x\ninput y\ncopy a to z\nuse x\nuse z", "put", 7, "use z")

    def test_a_lot_that_the_caller_changes(self):
        desk = desk_of("local a b c", "input a", "use a", "input b", "use b", "input c", "use c")
        lot = ["a", "b"]
        desk.add_guard("one", lot)
        lot[1] = "c"
        lot.append("z")
        self.refused(desk, Barred, {"names": ["one"]}, "put", 5, "use a")
        lot.clear()
        self.refused(desk, Barred, {"names": ["one"]}, "put", 5, "use a")
        self.accepted(desk, text("local a b c", "input a", "use a", "input b", "use b", "input c", "use b", "use c"),
                      "put", 7, "use b")
        self.assertEqual(desk.guards(), ["one"])

    def test_single_cells(self):
        desk = desk_of("local a b", "input a", "input b", "use a")
        desk.add_guard("one", ["a"])
        desk.add_guard("other", ("b",))
        self.accepted(desk, "local a b\ninput a\ninput b\nuse a\nuse b", "put", 5, "use b")
        self.refused(desk, Barred, {"names": ["one", "other"]}, "drop", 1, 5)
        desk.drop(2, 5)
        self.refused(desk, Barred, {"names": ["one", "other"]}, "drop", 1, 1)
        desk.drop_guard("one")
        desk.put(2, "block\nlocal c\nend")
        self.assertEqual(desk.program.cells, ("a", "b", "c"))

    def test_guards_of_the_same_lot(self):
        desk = Desk(Program(SOURCE))
        desk.add_guard("b", ["a", "b"])
        desk.add_guard("a", ["b", "a"])
        self.refused(desk, Barred, {"names": ["a", "b"]}, "put", 6, "use a")
        desk.drop_guard("b")
        self.refused(desk, Barred, {"names": ["a"]}, "put", 6, "use a")
        desk.drop_guard("a")
        self.accepted(desk, SOURCE + "\nuse a", "put", 6, "use a")

    def test_all_that_would_not_be_kept(self):
        desk = desk_of("local a b c", "input a", "use a", "input b", "use b", "input c", "use c")
        for name, lot in (("m", ["a", "b"]), ("k", ["c", "b"]), ("z", ["a", "b", "c"]), ("b", ["a"]), ("a", ["c", "a"])):
            desk.add_guard(name, lot)
        self.refused(desk, Barred, {"names": ["m", "z"]}, "put", 5, "use a")
        self.refused(desk, Barred, {"names": ["a", "m", "z"]}, "put", 8, "use a")
        self.refused(desk, Barred, {"names": ["k", "z"]}, "put", 7, "use b")

    def test_a_cell_that_would_no_longer_exist(self):
        desk = desk_of("local a b", "input a", "use a", "block", "local c", "use c", "end", "input b", "use b")
        for name, lot in (("m", ["a", "b"]), ("k", ["c"]), ("z", ["c", "b"]), ("b", ["a"])):
            desk.add_guard(name, lot)
        self.refused(desk, Barred, {"names": ["k", "z"]}, "drop", 4, 7)
        self.refused(desk, BadProgram, {"line": 5}, "drop", 5, 5)
        self.refused(desk, Barred, {"names": ["k", "z"]}, "drop", 5, 6)
        desk.drop_guard("k")
        desk.put(4, "use a")
        desk.drop_guard("z")
        self.accepted(desk, text("local a b", "input a", "use a", "use a", "input b", "use b"), "drop", 5, 8)

    def test_a_wrong_lot_beside_a_lost_cell(self):
        desk = desk_of("local a b", "input a", "use a", "input b", "use b", "block", "local c", "end", "input a", "use a")
        desk.add_guard("lost", ["c"])
        desk.add_guard("both", ["a", "b"])
        desk.add_guard("kept", ["b"])
        self.refused(desk, Barred, {"names": ["both", "lost"]}, "drop", 6, 9)
        self.refused(desk, Barred, {"names": ["both"]}, "drop", 9, 9)

    def test_a_guard_of_a_cell_of_an_inner_block(self):
        desk = desk_of("block", "local a", "end", "block", "end")
        desk.add_guard("one", ["a"])
        desk.put(3, "use a")
        self.refused(desk, Barred, {"names": ["one"]}, "drop", 2, 3)
        self.refused(desk, BadProgram, {"line": 6}, "put", 6, "local a")

    def test_errors_ahead_of_barred(self):
        desk = Desk(Program(SOURCE))
        desk.add_guard("both", ["a", "b"])
        self.refused(desk, NoLine, {"line": 7}, "put", 7, "use a")
        self.refused(desk, BadProgram, {"line": 7}, "put", 6, "use a\nuse c")
        self.refused(desk, NoLine, {"line": 6}, "drop", 4, 6)
        self.refused(desk, BadProgram, {"line": 1}, "drop", 1, 1)
        self.refused(desk, Barred, {"names": ["both"]}, "drop", 1, 5)
        self.refused(desk, Barred, {"names": ["both"]}, "put", 6, "use a")

    def test_drop_guard(self):
        desk = Desk(Program(SOURCE))
        for name in ("one", "", "One", "local", "a"):
            self.refused(desk, NoGuard, {"name": name}, "drop_guard", name)
        desk.add_guard("one", ["a"])
        desk.drop_guard("one")
        self.refused(desk, NoGuard, {"name": "one"}, "drop_guard", "one")

    def test_the_list_is_new(self):
        desk = Desk(Program(SOURCE))
        desk.guards().append("x")
        self.assertEqual(desk.guards(), [])
        desk.add_guard("one", ["a"])
        self.assertIs(type(desk.guards()), list)
        desk.guards().clear()
        self.assertEqual(desk.guards(), ["one"])

    def test_names_that_an_error_tells(self):
        desk = Desk(Program(SOURCE))
        desk.add_guard("both", ["a", "b"])
        for _ in range(2):
            with self.assertRaises(Barred) as caught:
                desk.put(6, "use a")
            self.assertEqual(caught.exception.names, ["both"])
            self.assertIs(type(caught.exception.names), list)
            caught.exception.names.clear()

    def test_many_cases_without_guards(self):
        """Without guards nothing is asked about all runs."""
        deeds = [f"point {cell} to {other}" for cell, other in zip("abcde", "bcdea")]
        desk = desk_of("local a b c d e", *deeds, "loop", "call a", "input a", "input b", "end")
        desk.put(8, "call b\ncall c")
        desk.put(8, "maybe\ninput c\ninput d\ninput e\nend")
        desk.drop(9, 10)
        desk.undo()
        self.assertEqual(desk.program.text.count("\n"), 17)


class Undo(DeskTest):
    def test_each_kind_of_change(self):
        desk = desk_of("local a", "block", "local b", "end")
        seen = [(desk.program.text, desk.guards())]
        for change in (
            lambda: desk.put(4, "use b"), lambda: desk.add_guard("one", ["b", "a"]), lambda: desk.add_guard("two", ["a"]),
            lambda: desk.move_out("b"), lambda: desk.drop_guard("one"), lambda: desk.drop(3, 3), lambda: desk.put(2, "use a"),
            lambda: desk.add_guard("one", ["b"]), lambda: desk.drop_guard("two"),
        ):
            change()
            self.assertNotEqual((desk.program.text, desk.guards()), seen[-1])
            seen.append((desk.program.text, desk.guards()))
        for text_then, guards_then in reversed(seen[:-1]):
            self.assertIsNone(desk.undo())
            self.assertEqual((desk.program.text, desk.guards()), (text_then, guards_then))
        self.refused(desk, NothingToUndo, {}, "undo")
        self.refused(desk, NothingToUndo, {}, "undo")

    def test_only_changes_are_undone(self):
        desk = Desk(Program(SOURCE))
        desk.add_guard("both", ["a", "b"])
        self.refused(desk, Barred, {"names": ["both"]}, "put", 6, "use a")
        self.refused(desk, BadProgram, {"line": 6}, "put", 6, "use z")
        self.refused(desk, NoGuard, {"name": "x"}, "drop_guard", "x")
        self.refused(desk, Outermost, {"name": "a"}, "move_out", "a")
        self.refused(desk, Taken, {"name": "both"}, "add_guard", "both", ["a"])
        desk.guards()
        desk.undo()
        self.assertEqual(desk.guards(), [])
        self.refused(desk, NothingToUndo, {}, "undo")

    def test_undo_is_no_change(self):
        desk = Desk(Program(SOURCE))
        for count in range(3):
            desk.put(6, "use b")
        desk.undo()
        desk.undo()
        self.assertEqual(desk.program.text, SOURCE + "\nuse b")
        desk.undo()
        self.refused(desk, NothingToUndo, {}, "undo")

    def test_new_edits_behind_undo(self):
        desk = Desk(Program(SOURCE))
        desk.put(6, "use a")
        desk.put(7, "use b")
        desk.undo()
        desk.put(7, "input a")
        desk.add_guard("one", ["a"])
        desk.undo()
        desk.add_guard("two", ["b"])
        self.assertEqual((desk.program.text, desk.guards()), (SOURCE + "\nuse a\ninput a", ["two"]))
        desk.undo()
        desk.undo()
        self.assertEqual((desk.program.text, desk.guards()), (SOURCE + "\nuse a", []))
        desk.undo()
        self.assertEqual(desk.program.text, SOURCE)
        self.refused(desk, NothingToUndo, {}, "undo")

    def test_guards_come_back(self):
        desk = Desk(Program(SOURCE))
        desk.add_guard("both", ["a", "b"])
        desk.drop_guard("both")
        desk.put(6, "use a")
        desk.undo()
        desk.undo()
        self.refused(desk, Barred, {"names": ["both"]}, "put", 6, "use a")
        self.refused(desk, Taken, {"name": "both"}, "add_guard", "both", ["a"])
        desk.undo()
        desk.put(6, "use a")
        self.refused(desk, Barred, {"names": ["both"]}, "add_guard", "both", ["a", "b"])
        desk.undo()
        desk.add_guard("both", ["a", "b"])

    def test_changes_that_leave_all_as_it_is(self):
        desk = desk_of("local a", "use a", "use a")
        desk.put(2, "use a")
        desk.drop(2, 2)
        self.assertEqual(desk.program.text, "local a\nuse a\nuse a")
        desk.undo()
        self.assertEqual(desk.program.text, "local a\nuse a\nuse a\nuse a")
        desk.undo()
        self.refused(desk, NothingToUndo, {}, "undo")

    def test_many_changes(self):
        desk = desk_of("local a", "use a")
        for _ in range(300):
            desk.put(2, "input a\nuse a")
            desk.add_guard("one", ["a"])
            desk.drop(2, 3)
            desk.drop_guard("one")
        for _ in range(300):
            self.assertEqual((desk.program.text, desk.guards()), ("local a\nuse a", []))
            desk.undo()
            self.assertEqual(desk.guards(), ["one"])
            desk.undo()
            self.assertEqual((desk.program.text, desk.guards()), ("local a\ninput a\nuse a\nuse a", ["one"]))
            desk.undo()
            desk.undo()
        self.refused(desk, NothingToUndo, {}, "undo")

    def test_two_desks_of_one_program(self):
        program = Program(SOURCE)
        one, other = Desk(program), Desk(program)
        one.put(2, "use a")
        one.add_guard("one", ["a"])
        self.assertEqual((other.program, other.guards()), (program, []))
        self.refused(other, NothingToUndo, {}, "undo")


class MovedTexts(DeskTest):
    def test_a_desk_of_a_moved_program(self):
        program = Program(text("block", "block", "local a b", *["use a"] * 35, "end", "end")).moved("b")
        desk = Desk(program)
        self.assertIs(is_right(desk.program, ["a", "b"]), True)
        desk.add_guard("both", ["a", "b"])
        self.refused(desk, BadProgram, {"line": 41}, "put", 5, "use a")
        desk.drop(5, 5)
        self.refused(desk, Barred, {"names": ["both"]}, "drop", 2, 2)
        self.assertEqual(len(desk.program.text.split("\n")), 40)


if __name__ == "__main__":
    unittest.main()
