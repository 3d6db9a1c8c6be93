"""Points 10, 11 and 13: which layouts are right, for all runs, and the smallest frames."""

import unittest
from random import Random

from frameplaces.frames import is_right_layout, smallest_frames
from frameplaces.lots import is_right, right_lots, wrong_run
from frameplaces.programs import Program
from generated import made_nest, made_program, small_program
from independent import Replay, Search
from independent_edits import divisions, frames_in


def program(*lines):
    return Program("\n".join(lines))


FIRST = program("local a x y z", "input a", "copy a to x", "input y", "copy a to z", "use x")
# Each of a and b may share a place with each of d and e.
TWICE = program("local a b c d e", "input c", "input a", "input b", "use a", "use b", "use c", "input d", "input e",
                "use c", "use d", "use e", "use c")


class RightLayouts(unittest.TestCase):
    def test_own_places(self):
        for made in (FIRST, TWICE, program("local a b", "input a", "input b", "use a"), Program("")):
            self.assertIs(is_right_layout(made, []), True)
            self.assertIs(is_right_layout(made, ()), True)
            self.assertIs(is_right_layout(made, [[cell] for cell in made.cells]), True)
            self.assertIs(is_right_layout(made, [[cell] for cell in made.cells[1:2]]), True)

    def test_each_lot_counts(self):
        self.assertIs(is_right_layout(FIRST, [["a", "x"], ["y", "z"]]), True)
        self.assertIs(is_right_layout(FIRST, [["a", "x"], ["y"]]), True)
        self.assertIs(is_right_layout(FIRST, [["a", "y"], ["x", "z"]]), False)
        self.assertIs(is_right_layout(FIRST, [["x", "z"], ["a", "y"]]), False)
        self.assertIs(is_right_layout(FIRST, [["z"], ["a"], ["x", "y"]]), False)

    def test_a_lot_with_wrong_pairs(self):
        self.assertIs(is_right_layout(FIRST, [["x", "y", "z"]]), True)
        self.assertIs(is_right_layout(FIRST, [["x", "y"], ["z"]]), False)
        self.assertIs(is_right_layout(FIRST, [["x", "y"]]), False)
        self.assertIs(is_right_layout(FIRST, [["a", "x", "y", "z"]]), False)

    def test_any_order_of_cells_and_lots(self):
        for layout in ([["z", "x", "y"], ["a"]], [["a"], ["y", "z", "x"]], (("y", "x", "z"),), [("z", "y", "x"), ["a"]]):
            self.assertIs(is_right_layout(FIRST, layout), True)
        for layout in ([["d", "a"], ["b", "e"]], [["e", "b"], ["a", "d"]], (("e", "b"), ("c",), ("d", "a"))):
            self.assertIs(is_right_layout(TWICE, layout), True)
        for layout in ([["d", "e"], ["a", "b"]], [["e", "b"], ["d", "a", "c"]], (("e", "b", "d", "a"),)):
            self.assertIs(is_right_layout(TWICE, layout), False)

    def test_a_same_that_differs(self):
        made = program("local p q x y", "point p to x", "point q to y", "same p q", "use p", "else", "use q", "end")
        self.assertIs(is_right_layout(made, [["x", "y"]]), False)
        self.assertIs(is_right_layout(made, [["x"], ["y"]]), True)

    def test_the_layout_stays_as_it_is(self):
        layout = [["z", "y"], ["x", "a"]]
        self.assertIs(is_right_layout(FIRST, layout), True)
        self.assertEqual(layout, [["z", "y"], ["x", "a"]])


class DrawnLayouts(unittest.TestCase):
    def check_right(self, made, layout, draw):
        for _ in range(8):
            choices = [draw.randint(-1, 4) for _ in range(draw.randint(0, 40))]
            self.assertEqual(Replay(made.text, choices, layout).events(), Replay(made.text, choices).events())
            self.assertEqual(made.run(choices, layout=layout), made.run(choices))

    def check_wrong(self, made, layout):
        """The run that shows that a lot is wrong shows that the layout is wrong."""
        lot = [lot for lot in layout if not is_right(made, lot)][0]
        choices = wrong_run(made, lot)
        self.assertNotEqual(Replay(made.text, choices, layout).events(), Replay(made.text, choices).events())
        self.assertNotEqual(made.run(choices, layout=layout), made.run(choices))

    def test_against_the_second_reading(self):
        tried = {True: 0, False: 0}
        for seed in range(400):
            draw = Random(seed)
            make = draw.choice([made_nest, made_program])
            made = small_program(make(seed, draw.choice([6, 9, 12]), draw.randint(3, 5)), 150)
            if made is None or len(made.cells) < 2:
                continue
            search = Search(made.text, True)
            for division in draw.sample(divisions(draw.sample(made.cells, len(made.cells))), 2):
                layout = draw.sample(division, draw.randint(1, len(division)))
                right = all(search.least[tuple(sorted(lot))] is None for lot in layout)
                self.assertIs(is_right_layout(made, layout), right, (made.text, layout))
                if right:
                    self.check_right(made, layout, draw)
                else:
                    self.check_wrong(made, layout)
                tried[right] += max(map(len, layout)) > 1
        self.assertGreater(min(tried.values()), 50)


class SmallestFrames(unittest.TestCase):
    def test_no_cells(self):
        for text in ("", "block\nend", "loop\nmaybe\nend\nend"):
            self.assertEqual(smallest_frames(Program(text)), [[]])

    def test_one_cell(self):
        self.assertEqual(smallest_frames(program("local a", "input a", "use a")), [[["a"]]])

    def test_a_lot_with_wrong_pairs(self):
        self.assertEqual(smallest_frames(FIRST), [[["a"], ["x", "y", "z"]], [["a", "x"], ["y", "z"]], [["a", "x", "z"], ["y"]]])
        made = program("local y x z", "input x", "input y", "copy x to z", "use x", "use z")
        self.assertEqual(smallest_frames(made), [[["x"], ["y", "z"]], [["x", "z"], ["y"]]])

    def test_all_on_one_place(self):
        made = program("local e c a b d", *[line for cell in "abcde" for line in (f"input {cell}", f"use {cell}")])
        self.assertEqual(smallest_frames(made), [[["a", "b", "c", "d", "e"]]])
        self.assertEqual(smallest_frames(program("local b a")), [[["a", "b"]]])

    def test_none_together(self):
        made = program("local e c a b d", *[f"input {cell}" for cell in "abcde"], *[f"use {cell}" for cell in "abcde"])
        self.assertEqual(smallest_frames(made), [[["a"], ["b"], ["c"], ["d"], ["e"]]])

    def test_five_cells(self):
        self.assertEqual(right_lots(TWICE), [["a", "d"], ["a", "e"], ["b", "d"], ["b", "e"]])
        self.assertEqual(smallest_frames(TWICE), [[["a", "d"], ["b", "e"], ["c"]], [["a", "e"], ["b", "d"], ["c"]]])

    def test_names_are_compared_as_texts(self):
        made = program("local b aa a", "input b", "input aa", "use b", "use aa", "input a", "use a")
        self.assertEqual(smallest_frames(made), [[["a", "aa"], ["b"]], [["a", "b"], ["aa"]]])

    def test_lots_in_ascending_order(self):
        made = program("local d c b a", "input d", "input a", "use d", "use a", "input b", "input c", "use b", "use c")
        self.assertEqual(smallest_frames(made), [[["a", "b"], ["c", "d"]], [["a", "c"], ["b", "d"]]])

    def test_lists_are_new(self):
        kept = smallest_frames(TWICE)
        frames = smallest_frames(TWICE)
        self.assertEqual({type(frames), type(frames[0]), type(frames[0][0])}, {list})
        lists = [id(lot) for frame in frames for lot in frame] + [id(frame) for frame in frames]
        self.assertEqual(len(lists), len(set(lists)))
        frames[0][0].append("z")
        frames[0].pop()
        self.assertEqual(frames[1], kept[1])
        frames.clear()
        self.assertEqual(smallest_frames(TWICE), kept)
        empty = smallest_frames(Program(""))
        empty[0].append(["a"])
        empty.append([])
        self.assertEqual(smallest_frames(Program("")), [[]])

    def test_against_the_second_reading(self):
        several = of_many = 0
        for seed in range(500, 1000):
            draw = Random(seed)
            make = draw.choice([made_nest, made_program])
            made = small_program(make(seed, draw.choice([6, 10, 14]), draw.randint(2, 5)), 200)
            if made is not None:
                frames = smallest_frames(made)
                self.assertEqual(frames, frames_in(Search(made.text, True), made.cells), made.text)
                several += len(frames) > 1
                of_many += len(frames[0]) > 2
        self.assertGreater(min(several, of_many), 50)


if __name__ == "__main__":
    unittest.main()
