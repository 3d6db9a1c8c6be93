"""Points 10 to 12: which lots are right, for all runs; programs that were made up by hand."""

import unittest

from frameplaces.cases import find_cases
from frameplaces.lots import is_right, right_lots, wrong_lines, wrong_run
from frameplaces.programs import Program
from independent import Replay, Search


def text(*lines):
    return "\n".join(lines)


# 906 cases, most of them through inputs.
MANY_INPUTS = text(
    "local a b c d", "loop", "maybe", "input a", "else", "copy a to b", "end", "maybe", "input c", "else", "copy a to d",
    "end", "end",
)
# 996 cases, most of them within calls.
MANY_CALLED = text(
    "local d e c", "point d to c", "point e to c", "point c to c", "load e from e", "use e", "block", "point c to c",
    "same c d", "local a", "else", "use c", "end", "copy c to e", "point e to d", "input c", "call e", "end",
    "copy c to e", "use e", "call c", "load d from d", "point e to e", "same d c", "block", "local b", "point c to c",
    "store e to e", "use c", "use b", "end", "end",
)
# 975 cases without an input.
MANY_ADDRESSES = text(
    "local c d e", "point c to d", "point d to d", "point e to c", "use c", "block", "load d from c", "maybe",
    "local b", "maybe", "local a", "else", "use d", "end", "else", "call c", "load e from c", "end", "store e to d",
    "point c to e", "call d", "point c to e", "end", "point d to e", "use d", "loop", "load d from c", "copy d to e",
    "use e", "call e", "copy e to e", "copy e to e", "end",
)


class Lots(unittest.TestCase):
    def check_run(self, source, lot, length):
        """A wrong run is told whose first wrong event is at this length, and the run in the layout differs."""
        made = Program(source)
        choices = wrong_run(made, lot)
        self.assertIs(type(choices), list)
        self.assertEqual(Replay(source, choices).wrong_events(lot)[0][0], length)
        self.assertNotEqual(made.run(choices), made.run(choices, layout=[lot]))
        self.assertIs(is_right(made, lot), False)

    def check_all(self, source, exchange=True):
        """All answers about all lots are those of the second reading."""
        made = Program(source)
        search = Search(source, exchange)
        right = [list(lot) for lot in sorted(search.lots) if len(lot) > 1 and search.least[lot] is None]
        self.assertEqual(right_lots(made), right)
        for lot in search.lots:
            self.assertEqual(wrong_lines(made, list(lot)), sorted(search.lines[lot]))
            self.assertIs(is_right(made, lot), search.least[lot] is None)
            if search.least[lot] is None:
                self.assertIsNone(wrong_run(made, lot))
            else:
                self.check_run(source, lot, search.least[lot])
        return search

    def test_right_lots_with_wrong_pairs(self):
        source = text("local a x y z", "input a", "copy a to x", "input y", "copy a to z", "use x")
        made = Program(source)
        self.assertIs(is_right(made, ["x", "y", "z"]), True)
        self.assertIsNone(wrong_run(made, ["z", "y", "x"]))
        self.assertEqual(wrong_lines(made, ["x", "y", "z"]), [])
        self.check_run(source, ["x", "y"], 5)
        self.assertEqual(wrong_lines(made, ["x", "y"]), [6])
        self.check_all(source)

    def test_no_cells_and_lots_of_one_cell(self):
        self.assertEqual(right_lots(Program("")), [])
        made = Program(text("local a", "loop", "use a", "input a", "same a a", "end", "end"))
        self.assertEqual(right_lots(made), [])
        self.assertEqual((wrong_run(made, ["a"]), is_right(made, ["a"]), wrong_lines(made, ["a"])), (None, True, []))

    def test_nothing_is_written(self):
        made = Program(text("local a b", "use a", "use b", "same a b", "end"))
        self.assertEqual(right_lots(made), [["a", "b"]])

    def test_unset_and_written(self):
        made = Program(text("local a b", "input a", "use b"))
        self.assertEqual(wrong_lines(made, ["a", "b"]), [3])
        made = Program(text("local a b", "copy a to a", "use b"))
        self.assertEqual(wrong_lines(made, ["a", "b"]), [])

    def test_a_copy_to_itself_is_a_write(self):
        source = text("local a b", "input a", "input b", "use a")
        self.assertEqual(wrong_lines(Program(source), ["a", "b"]), [4])
        source = text("local a b c", "input a", "copy a to c", "input b", "copy c to c", "copy b to b", "use a")
        self.assertEqual(wrong_lines(Program(source), ["a", "b"]), [7])
        self.assertEqual(wrong_lines(Program(source), ["a", "b", "c"]), [5, 6, 7])
        self.check_all(source)

    def test_a_write_of_the_same_worth_is_a_write(self):
        source = text("local a b c", "input a", "copy a to b", "copy a to c", "input b", "copy c to a", "use a")
        self.assertEqual(wrong_lines(Program(source), ["a", "b"]), [])
        self.assertEqual(wrong_lines(Program(source), ["b", "c"]), [6])
        self.check_all(source)

    def test_several_events_at_one_line(self):
        source = text("local p q x", "point p to x", "point q to p", "load q from p", "store q to p")
        self.check_all(source)
        self.check_run(source, ["p", "q"], 3)

    def test_addresses_of_one_lot_are_compared(self):
        source = text("local p q x y", "point p to x", "maybe", "point q to y", "else", "point q to x", "end", "same p q",
                      "end")
        made = Program(source)
        self.assertEqual(wrong_lines(made, ["x", "y"]), [8])
        self.check_run(source, ["x", "y"], 4)
        self.assertEqual(wrong_lines(made, ["x", "p"]), [])
        self.check_all(source)

    def test_a_block_does_not_end_a_life(self):
        source = text("local p r", "block", "local x", "input x", "point p to x", "end", "block", "local y", "input y", "end",
                      "load r from p")
        self.assertEqual(wrong_lines(Program(source), ["x", "y"]), [11])
        self.check_all(source)
        source = source.replace("point p to x", "point p to p")
        self.assertEqual(wrong_lines(Program(source), ["x", "y"]), [])

    def test_only_after_several_rounds(self):
        source = text("local a b c d e", "point a to a", "loop", "copy c to d", "copy b to c", "copy a to b", "copy e to e",
                      "end")
        made = Program(source)
        self.assertEqual(wrong_run(made, ["e", "d"])[:3], [1, 1, 1])
        self.assertEqual(wrong_lines(made, ["d", "e"]), [7])
        self.check_run(source, ["d", "e"], 16)
        self.check_run(source, ["c", "e"], 11)
        self.check_run(source, ["b", "e"], 6)
        self.check_all(source)

    def test_inputs_both_equal_and_unequal(self):
        source = text("local a b c d e", "input a", "input b", "same a b", "point c to c", "use d", "else", "point c to c",
                      "use e", "end")
        made = Program(source)
        self.assertEqual((wrong_lines(made, ["c", "d"]), wrong_lines(made, ["c", "e"])), ([6], [9]))
        equal, unequal = wrong_run(made, ["c", "d"]), wrong_run(made, ["c", "e"])
        self.assertEqual(equal[0], equal[1])
        self.assertNotEqual(unequal[0], unequal[1])
        self.assertEqual(wrong_lines(made, ["a", "b"]), [4])
        self.check_all(source, exchange=False)

    def test_many_inputs_all_unequal_or_equal(self):
        source = text("local a b c d e", "input a", "input b", "input c", "input d", "same a b", "else", "same b c", "else",
                      "same c d", "else", "same a c", "else", "same b d", "else", "use e", "end", "end", "end", "end", "end")
        self.check_all(source)
        self.assertEqual(wrong_lines(Program(source), ["a", "e"]), [16])

    def test_inputs_of_a_called_procedure(self):
        source = text("local p x y z", "point p to x", "input y", "call p", "same x y", "use z", "else", "use z", "end")
        self.assertEqual(wrong_lines(Program(source), ["p", "z"]), [6, 8])
        self.check_all(source, exchange=False)

    def test_called_procedures_read_and_write(self):
        source = text("local p x y", "point p to x", "call p", "input y", "call p")
        made = Program(source)
        self.assertEqual(wrong_lines(made, ["x", "y"]), [5])
        self.check_run(source, ["x", "y"], 6)
        self.assertEqual(wrong_lines(made, ["p", "x"]), [3, 5])
        self.check_all(source, exchange=False)

    def test_addresses_that_called_procedures_find(self):
        source = text("local p x y z", "point x to y", "input y", "input z", "point p to x", "call p")
        self.check_run(source, ["y", "z"], 7)
        self.assertEqual(wrong_lines(Program(source), ["y", "z"]), [6])
        self.check_all(source, exchange=False)
        source = source.replace("point x to y", "use x")
        self.assertEqual(wrong_lines(Program(source), ["y", "z"]), [])

    def test_known_cells_of_an_earlier_call(self):
        source = text("local p q x y", "point p to x", "call p", "point p to q", "input y", "call q", "use x")
        self.assertEqual(wrong_lines(Program(source), ["x", "y"]), [6, 7])
        self.check_all(source)

    def test_lines_that_no_run_comes_to(self):
        source = text("local a b p", "input a", "input b", "same a a", "load a from p", "end", "use a")
        self.assertEqual(wrong_lines(Program(source), ["a", "b"]), [4])
        self.check_all(source)

    def test_the_length_counts_choices_and_same(self):
        source = text("local a b", "loop", "block", "maybe", "same a a", "input b", "end", "end", "end", "end", "use a")
        self.check_run(source, ["a", "b"], 6)
        self.assertEqual(wrong_lines(Program(source), ["a", "b"]), [5, 11])
        self.check_run(text("local a b", "loop", "maybe", "input b", "end", "end", "use a"), ["a", "b"], 5)
        self.check_run(text("local a b", "block", "input b", "end", "block", "block", "use a", "end", "end"), ["a", "b"], 2)

    def test_the_length_within_a_call(self):
        source = text("local p x y", "point p to x", "call p", "use y")
        self.check_run(source, ["x", "y"], 5)
        source = text("local p x y", "point p to x", "point x to y", "call p", "use p")
        self.check_run(source, ["p", "y"], 5)
        self.check_run(source, ["p", "x"], 3)

    def test_the_nearest_of_several_wrong_events(self):
        source = text("local a b", "input b", "maybe", "use b", "use b", "use a", "else", "use b", "use a", "end", "use a")
        self.check_run(source, ["a", "b"], 4)
        self.assertEqual(wrong_lines(Program(source), ["a", "b"]), [6, 9, 11])

    def test_nearly_1000_cases(self):
        for source in (MANY_INPUTS, MANY_CALLED, MANY_ADDRESSES):
            self.assertTrue(900 < len(find_cases(Program(source)).met) <= 1000)
            search = self.check_all(source)
            self.assertTrue(any(length is None for length in search.least.values()))

    def test_order_of_right_lots(self):
        made = Program("local d b e a c")
        lots = right_lots(made)
        self.assertEqual(len(lots), 26)
        self.assertEqual(lots[:6], [["a", "b"], ["a", "b", "c"], ["a", "b", "c", "d"], ["a", "b", "c", "d", "e"],
                                    ["a", "b", "c", "e"], ["a", "b", "d"]])
        self.assertEqual(lots, sorted(lots))
        made = Program("local b aa a")
        self.assertEqual(right_lots(made), [["a", "aa"], ["a", "aa", "b"], ["a", "b"], ["aa", "b"]])


if __name__ == "__main__":
    unittest.main()
