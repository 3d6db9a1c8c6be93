"""Points 4 to 8: runs with own places, and their events."""

import unittest
from random import Random

from frameplaces.programs import Program
from generated import made_program
from independent import Replay


def program(*lines):
    return Program("\n".join(lines))


class Deeds(unittest.TestCase):
    def test_input_copy_use(self):
        made = program("local a b", "input a", "copy a to b", "use b", "use a")
        self.assertEqual(made.run([5]), [
            ("write", 2, "a", 5), ("read", 3, "a", 5), ("write", 3, "b", 5), ("read", 4, "b", 5), ("read", 5, "a", 5),
        ])

    def test_unset_at_the_beginning(self):
        made = program("local a b", "use a", "copy b to a", "use a")
        self.assertEqual(made.run([]), [
            ("read", 2, "a", None), ("read", 3, "b", None), ("write", 3, "a", None), ("read", 4, "a", None),
        ])

    def test_point(self):
        made = program("local a b", "point a to b", "point b to b", "use a", "copy b to a")
        self.assertEqual(made.run([]), [
            ("write", 2, "a", "&b"), ("write", 3, "b", "&b"), ("read", 4, "a", "&b"), ("read", 5, "b", "&b"),
            ("write", 5, "a", "&b"),
        ])

    def test_load_and_store(self):
        made = program("local a b p", "input b", "point p to b", "load a from p", "input a", "store a to p", "use b")
        self.assertEqual(made.run([3, 4])[2:], [
            ("read", 4, "p", "&b"), ("read", 4, "b", 3), ("write", 4, "a", 3), ("write", 5, "a", 4),
            ("read", 6, "p", "&b"), ("read", 6, "a", 4), ("write", 6, "b", 4), ("read", 7, "b", 4),
        ])

    def test_load_and_store_through_no_address(self):
        for deed in ("load a from p", "store a to p"):
            made = program("local a p", deed, "use a")
            self.assertEqual(made.run([]), [("read", 2, "p", None)])
            made = program("local a p", "input p", deed, "use a")
            self.assertEqual(made.run([0]), [("write", 2, "p", 0), ("read", 3, "p", 0)])
            made = program("local a p", "loop", deed, "end", "use a")
            self.assertEqual(made.run([1, 1, 0]), [("read", 3, "p", None)])
            self.assertEqual(made.run([0]), [("read", 5, "a", None)])

    def test_load_and_store_of_a_cell_through_itself(self):
        made = program("local p", "point p to p", "load p from p", "store p to p", "use p")
        self.assertEqual(made.run([]), [
            ("write", 2, "p", "&p"), ("read", 3, "p", "&p"), ("read", 3, "p", "&p"), ("write", 3, "p", "&p"),
            ("read", 4, "p", "&p"), ("read", 4, "p", "&p"), ("write", 4, "p", "&p"), ("read", 5, "p", "&p"),
        ])
        made = program("local p q", "point p to q", "load p from p", "load p from p")
        self.assertEqual(made.run([])[1:], [
            ("read", 3, "p", "&q"), ("read", 3, "q", None), ("write", 3, "p", None), ("read", 4, "p", None),
        ])

    def test_copy_to_itself(self):
        made = program("local a", "copy a to a", "input a", "copy a to a")
        self.assertEqual(made.run([7]), [
            ("read", 2, "a", None), ("write", 2, "a", None), ("write", 3, "a", 7), ("read", 4, "a", 7),
            ("write", 4, "a", 7),
        ])

    def test_cells_keep_what_they_hold(self):
        made = program("local p r", "loop", "block", "local x", "use x", "input x", "point p to x", "end", "end",
                       "load r from p")
        self.assertEqual([event for event in made.run([1, 5, 1, 6, 0]) if event[2] == "x"], [
            ("read", 5, "x", None), ("write", 6, "x", 5), ("read", 5, "x", 5), ("write", 6, "x", 6), ("read", 10, "x", 6),
        ])


class Blocks(unittest.TestCase):
    def test_same(self):
        made = program("local a b", "input a", "input b", "same a b", "use a", "else", "use b", "end", "use a")
        self.assertEqual(made.run([1, 1])[2:], [
            ("read", 4, "a", 1), ("read", 4, "b", 1), ("same", 4, None, True), ("read", 5, "a", 1), ("read", 9, "a", 1),
        ])
        self.assertEqual(made.run([1, 2])[2:], [
            ("read", 4, "a", 1), ("read", 4, "b", 2), ("same", 4, None, False), ("read", 7, "b", 2), ("read", 9, "a", 1),
        ])

    def test_same_worths(self):
        def answer(*deeds):
            return program("local a b c d", *deeds, "same a b", "end").run([0, 0])[-1][3]
        self.assertIs(answer(), True)
        self.assertIs(answer("point a to c", "point b to c"), True)
        self.assertIs(answer("point a to c", "point b to d"), False)
        self.assertIs(answer("point a to c"), False)
        self.assertIs(answer("input a"), False)
        self.assertIs(answer("input a", "input b"), True)
        self.assertIs(answer("input a", "point b to a"), False)

    def test_same_of_one_cell(self):
        made = program("local a", "same a a", "use a", "else", "input a", "end")
        self.assertEqual(made.run([3]), [
            ("read", 2, "a", None), ("read", 2, "a", None), ("same", 2, None, True), ("read", 3, "a", None),
        ])

    def test_same_without_else(self):
        made = program("local a b", "input a", "same a b", "use a", "end", "use b")
        self.assertEqual(made.run([3])[-2:], [("same", 3, None, False), ("read", 6, "b", None)])

    def test_empty_sides(self):
        made = program("local a b", "input a", "same a b", "else", "end", "maybe", "else", "end", "loop", "end", "block",
                       "end", "use b")
        self.assertEqual(made.run([1, 0, 1, 1, 0])[-2:], [("same", 3, None, False), ("read", 13, "b", None)])
        self.assertEqual(made.run([1, 0, 1, 1])[-1], ("same", 3, None, False))

    def test_maybe(self):
        made = program("local a b", "maybe", "use a", "else", "use b", "end", "use a")
        self.assertEqual(made.run([0]), [("read", 3, "a", None), ("read", 7, "a", None)])
        for other in (1, -1, 2, 10 ** 999, -10 ** 999):
            self.assertEqual(made.run([other]), [("read", 5, "b", None), ("read", 7, "a", None)])
        made = program("local a b", "maybe", "use a", "end", "use b")
        self.assertEqual(made.run([0]), [("read", 3, "a", None), ("read", 5, "b", None)])
        self.assertEqual(made.run([4]), [("read", 5, "b", None)])

    def test_loop(self):
        made = program("local a", "loop", "use a", "end", "copy a to a")
        after = [("read", 5, "a", None), ("write", 5, "a", None)]
        self.assertEqual(made.run([0]), after)
        self.assertEqual(made.run([1, 0]), [("read", 3, "a", None)] + after)
        self.assertEqual(made.run([-1, 10 ** 999, 2, 0]), [("read", 3, "a", None)] * 3 + after)

    def test_a_text_without_cells_of_its_own(self):
        made = program("loop", "local a", "use a", "end", "block", "local b", "use b", "end")
        self.assertEqual(made.run([1, 1, 0]), [("read", 3, "a", None)] * 2 + [("read", 7, "b", None)])
        made = program("maybe", "local a", "use a", "else", "local b", "use b", "end")
        self.assertEqual(made.run([0]), [("read", 3, "a", None)])
        self.assertEqual(made.run([1]), [("read", 6, "b", None)])
        self.assertEqual(program("block", "end", "maybe", "end", "loop", "end").run([0, 1, 1, 0]), [])

    def test_nested_loops(self):
        made = program("local a b", "loop", "use a", "loop", "use b", "end", "end")
        self.assertEqual([event[2] for event in made.run([1, 1, 1, 0, 1, 0, 0, 1])], ["a", "b", "b", "a"])

    def test_a_loop_of_300_rounds(self):
        made = program("local a", "loop", "use a", "end")
        self.assertEqual(made.run([1] * 300), [("read", 3, "a", None)] * 300)


class WantOfChoices(unittest.TestCase):
    def test_loop(self):
        made = program("local a b", "use a", "loop", "use b", "end", "use a")
        self.assertEqual(made.run([]), [("read", 2, "a", None)])
        self.assertEqual(made.run([1]), [("read", 2, "a", None), ("read", 4, "b", None)])

    def test_maybe(self):
        made = program("local a", "use a", "maybe", "use a", "else", "use a", "end", "use a")
        self.assertEqual(made.run([]), [("read", 2, "a", None)])

    def test_input(self):
        made = program("local a", "use a", "input a", "use a", "input a")
        self.assertEqual(made.run([]), [("read", 2, "a", None)])
        self.assertEqual(made.run([8]), [("read", 2, "a", None), ("write", 3, "a", 8), ("read", 4, "a", 8)])

    def test_within_a_call(self):
        made = program("local p x", "point p to x", "call p", "use x")
        start = [("write", 2, "p", "&x"), ("read", 3, "p", "&x")]
        self.assertEqual(made.run([]), start)
        self.assertEqual(made.run([1]), start)
        self.assertEqual(made.run([1, 0]), start)
        self.assertEqual(made.run([1, 0, 6]), start + [("write", 3, "x", 6)])
        self.assertEqual(made.run([1, -1]), start + [("read", 3, "x", None)])
        self.assertEqual(made.run([1, -1, 1]), start + [("read", 3, "x", None)])
        self.assertEqual(made.run([1, -1, 0]), start + [("read", 3, "x", None), ("read", 4, "x", None)])

    def test_choices_that_are_left(self):
        self.assertEqual(program("local a", "use a").run([1, 2, 3]), [("read", 2, "a", None)])


class Calls(unittest.TestCase):
    def test_no_known_cell(self):
        made = program("local p x", "call p", "use x")
        for choice in (0, 1, 2, -1, 10 ** 999):
            self.assertEqual(made.run([choice, 7]), [("read", 2, "p", None), ("read", 3, "x", None)])
        self.assertEqual(made.run([]), [("read", 2, "p", None)])

    def test_an_input_is_no_address(self):
        made = program("local p x", "input p", "call p", "use x")
        self.assertEqual(made.run([1, 1]), [("write", 2, "p", 1), ("read", 3, "p", 1), ("read", 4, "x", None)])

    def test_what_ends_a_call(self):
        made = program("local p x", "point p to x", "call p", "use p")
        end = [("write", 2, "p", "&x"), ("read", 3, "p", "&x"), ("read", 4, "p", "&x")]
        for choices in ([0], [-1], [2], [10 ** 999], [-10 ** 999], [1, 3], [1, 4], [1, 10 ** 999]):
            self.assertEqual(made.run(choices), end, choices)

    def test_writes(self):
        made = program("local p x", "point p to x", "call p", "use x")
        for choices, worth in (([1, 0, -5, 0], -5), ([1, 0, 10 ** 999, 0], 10 ** 999), ([1, 1, 0], "&x"), ([1, 2, 0], None)):
            self.assertEqual(made.run(choices)[2:], [("write", 3, "x", worth), ("read", 4, "x", worth)])

    def test_known_cells_are_in_the_order_of_names(self):
        made = program("local p c b a", "point p to c", "call p", "point p to a", "call p", "use c")
        events = made.run([1, 0, 1, 0, 1, 0, 2, 2, 0, 3, 1, 2, 2, 1, 1, 3, 0])
        self.assertEqual(events[2:3], [("write", 3, "c", 1)])
        self.assertEqual(events[5:], [
            ("write", 5, "a", 2), ("write", 5, "c", 3), ("write", 5, "a", "&c"), ("write", 5, "c", "&a"),
            ("write", 5, "a", None), ("read", 6, "c", "&a"),
        ])

    def test_learning_by_reading(self):
        made = program("local p x y z", "point p to x", "point x to y", "point y to z", "call p", "use z")
        self.assertEqual(made.run([2, 1, -1, 2, -1, 3, 0, 9, 0])[3:], [("read", 5, "p", "&x"), ("read", 6, "z", None)])
        self.assertEqual(made.run([1, -1, 2, -10 ** 999, 3, 0, 9, 0])[3:], [
            ("read", 5, "p", "&x"), ("read", 5, "x", "&y"), ("read", 5, "y", "&z"), ("write", 5, "z", 9),
            ("read", 6, "z", 9),
        ])

    def test_known_cells_remain_known(self):
        made = program("local p x", "point p to x", "call p", "copy x to p", "call p", "use x")
        self.assertEqual(made.run([0, 1, 0, 4, 0])[2:], [
            ("read", 4, "x", None), ("write", 4, "p", None), ("read", 5, "p", None), ("write", 5, "x", 4),
            ("read", 6, "x", 4),
        ])

    def test_a_written_address_is_not_learned_until_it_is_read(self):
        made = program("local p x y", "point p to x", "call p", "point x to y", "call p")
        self.assertEqual(made.run([0, 2, 0, 1])[-1], ("read", 5, "p", "&x"))
        self.assertEqual(made.run([0, 1, -1, 2, 0, 1])[-2:], [("read", 5, "x", "&y"), ("write", 5, "y", 1)])

    def test_the_pointer_itself_may_be_known(self):
        made = program("local p", "point p to p", "call p", "call p")
        self.assertEqual(made.run([1, 0, 3, 0, 1, 1, 0])[1:], [
            ("read", 3, "p", "&p"), ("write", 3, "p", 3), ("read", 4, "p", 3), ("write", 4, "p", "&p"),
        ])

    def test_a_call_in_a_loop(self):
        made = program("local p x", "point p to x", "loop", "call p", "end", "use x")
        self.assertEqual(made.run([1, 1, 0, 5, 0, 1, 1, -1, 0, 0])[1:], [
            ("read", 4, "p", "&x"), ("write", 4, "x", 5), ("read", 4, "p", "&x"), ("read", 4, "x", 5), ("read", 6, "x", 5),
        ])


class Steps(unittest.TestCase):
    def test_the_same_events(self):
        made = program("local a b", "loop", "input a", "copy a to b", "end")
        self.assertEqual(list(made.steps([1, 5, 1, 6, 0])), made.run([1, 5, 1, 6, 0]))
        self.assertEqual(list(made.steps([1, 5], layout=[["a", "b"]])), made.run([1, 5], layout=[["a", "b"]]))

    def test_two_at_once(self):
        made = program("local a b", "input a", "copy a to b", "use b")
        one, other = made.steps([1]), made.steps([2], layout=[["a", "b"]])
        got = [(next(one), next(other)) for _ in range(4)]
        self.assertEqual([pair[0] for pair in got], made.run([1]))
        self.assertEqual([pair[1] for pair in got], made.run([2], layout=[["a", "b"]]))
        self.assertEqual((list(one), list(other)), ([], []))

    def test_it_is_a_generator(self):
        steps = program("local a", "use a").steps([])
        self.assertIs(iter(steps), steps)
        self.assertEqual(next(steps), ("read", 2, "a", None))


class MadePrograms(unittest.TestCase):
    def test_against_the_second_reading(self):
        for seed in range(1500):
            draw = Random(seed)
            text = made_program(seed, draw.choice([4, 9, 14]), draw.randint(2, 5))
            made = Program(text)
            for _ in range(4):
                choices = [draw.randint(-1, 4) for _ in range(draw.randint(0, 30))]
                self.assertEqual(made.run(choices), Replay(text, choices).events(), (text, choices))


if __name__ == "__main__":
    unittest.main()
