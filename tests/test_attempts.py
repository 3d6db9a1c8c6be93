"""Point 15: attempts at a desk, and long lists of drawn edits."""

import unittest
from random import Random

from frameplaces.desks import Desk
from frameplaces.errors import Barred, FrameError, NoCell, NothingToUndo
from frameplaces.programs import Program
from generated import is_small, made_nest, made_program, small_program
from independent import cells_of, first_wrong
from independent_edits import SecondDesk

SOURCE = "local a b\ninput a\nuse a\nblock\nlocal c\ninput b\nuse b\nend"


class Broken(Exception):
    """An error that is not of the package."""


def begun():
    """A desk behind four changes, one of which is undone."""
    desk = Desk(Program(SOURCE))
    desk.add_guard("both", ["a", "b"])
    desk.put(6, "use c")
    desk.drop_guard("both")
    desk.undo()
    desk.add_guard("inner", ["c"])
    return desk


def past_of(desk):
    """All that a desk was, from now to the beginning; the desk is worn out then."""
    seen = [(desk.program.text, desk.guards())]
    while True:
        try:
            desk.undo()
        except NothingToUndo:
            return seen
        seen.append((desk.program.text, desk.guards()))


PAST = past_of(begun())


def many_changes(desk):
    """Changes of each kind, and undo beyond where the attempt began."""
    desk.drop_guard("both")
    desk.put(6, "use a\nuse b")
    desk.move_out("c")
    desk.add_guard("a", ["c"])
    desk.drop(2, 3)
    for _ in range(7):
        desk.undo()
    desk.put(3, "use a")
    desk.add_guard("other", ["b"])


class Attempts(unittest.TestCase):
    def check_failed(self, action, error):
        """The very error goes on, and all is as it was, what can be undone included."""
        desk = begun()
        program = desk.program
        with self.assertRaises(type(error)) as caught:
            desk.attempt(action)
        self.assertIs(caught.exception, error)
        self.assertEqual(desk.program, program)
        self.assertEqual(past_of(desk), PAST)

    def test_the_past(self):
        self.assertEqual(PAST, [
            (SOURCE.replace("input b", "use c\ninput b"), ["both", "inner"]),
            (SOURCE.replace("input b", "use c\ninput b"), ["both"]), (SOURCE, ["both"]), (SOURCE, []),
        ])

    def test_the_desk_is_handed_over(self):
        desk = begun()
        self.assertIs(desk.attempt(lambda given: given), desk)

    def test_results_are_handed_on(self):
        desk = begun()
        for worth in (None, False, True, 0, 7, "", "text", (), [], {}, [1], Barred, NoCell("a"), Broken(), len):
            self.assertIs(desk.attempt(lambda given: worth), worth)
        self.assertEqual(past_of(desk), PAST)

    def test_each_change_is_undone_for_itself(self):
        desk = begun()
        self.assertEqual(desk.attempt(lambda given: [given.put(2, "use a"), given.move_out("c"), given.drop_guard("both")]),
                         [None, None, None])
        seen = past_of(desk)
        self.assertEqual(len(seen), len(PAST) + 3)
        self.assertEqual(seen[3:], PAST)
        self.assertEqual([guards for _, guards in seen[:3]], [["inner"], ["both", "inner"], ["both", "inner"]])
        self.assertNotEqual(seen[1][0], seen[2][0])

    def test_an_attempt_without_changes(self):
        desk = begun()
        desk.attempt(lambda given: given.guards())
        self.assertEqual(past_of(desk), PAST)
        desk = Desk(Program(SOURCE))
        desk.attempt(lambda given: 1)
        with self.assertRaises(NothingToUndo):
            desk.undo()

    def test_undo_in_a_good_attempt(self):
        desk = begun()
        desk.attempt(lambda given: (given.undo(), given.undo()))
        self.assertEqual(past_of(desk), PAST[2:])
        desk = begun()
        desk.attempt(many_changes)
        seen = past_of(desk)
        self.assertEqual(seen[2:], PAST[2:])
        self.assertEqual([guards for _, guards in seen[:2]], [["both", "other"], ["both"]])

    def test_errors_of_the_package(self):
        for call, kind in (
            (lambda desk: desk.put(99, "use a"), "NoLine"), (lambda desk: desk.drop(1, 1), "BadProgram"),
            (lambda desk: desk.put(9, "use z"), "BadProgram"), (lambda desk: desk.put(9, "use a"), "Barred"),
            (lambda desk: desk.move_out("a"), "Outermost"), (lambda desk: desk.move_out("z"), "NoCell"),
            (lambda desk: desk.add_guard("", ["a"]), "BadName"), (lambda desk: desk.add_guard("both", ["a"]), "Taken"),
            (lambda desk: desk.drop_guard("z"), "NoGuard"), (lambda desk: desk.add_guard("x", []), "BadLot"),
            (lambda desk: Program("end"), "BadProgram"),
        ):
            desk = begun()

            def action(given):
                given.put(2, "use a")
                given.add_guard("one", ["b"])
                call(given)
            with self.assertRaises(FrameError) as caught:
                desk.attempt(action)
            self.assertEqual(caught.exception.__class__.__name__, kind)
            self.assertEqual(past_of(desk), PAST)

    def test_nothing_to_undo(self):
        desk = begun()

        def action(given):
            while True:
                given.undo()
        with self.assertRaises(NothingToUndo):
            desk.attempt(action)
        self.assertEqual(past_of(desk), PAST)

    def test_errors_of_any_class(self):
        for error in (Broken("x"), ValueError("x"), KeyError("x"), Exception(), Barred(["x"]), KeyboardInterrupt(),
                      SystemExit(3), GeneratorExit(), BaseException("x"), StopIteration(4), AssertionError(), RecursionError()):
            def at_once(given):
                raise error

            def behind_changes(given):
                many_changes(given)
                raise error

            def behind_undo(given):
                given.undo()
                given.undo()
                raise error
            for action in (at_once, behind_changes, behind_undo):
                self.check_failed(action, error)

    def test_an_error_of_pythons_own(self):
        desk = begun()
        with self.assertRaises(ZeroDivisionError):
            desk.attempt(lambda given: [given.undo(), 1 // 0])
        self.assertEqual(past_of(desk), PAST)

    def test_an_action_that_cannot_be_called_so(self):
        desk = begun()
        with self.assertRaises(TypeError):
            desk.attempt(lambda: 1)
        self.assertEqual(past_of(desk), PAST)

    def test_an_error_that_the_action_catches(self):
        desk = begun()

        def action(given):
            given.put(2, "use a")
            try:
                given.put(10, "use a")
            except Barred as error:
                return error.names
        self.assertEqual(desk.attempt(action), ["both"])
        seen = past_of(desk)
        self.assertEqual((len(seen), seen[1:]), (len(PAST) + 1, PAST))

    def test_guards_are_as_they_were(self):
        desk = begun()

        def action(given):
            given.drop_guard("both")
            given.put(10, "use a")
            raise Broken
        with self.assertRaises(Broken):
            desk.attempt(action)
        with self.assertRaises(Barred) as caught:
            desk.put(10, "use a")
        self.assertEqual(caught.exception.names, ["both"])

    def test_the_desk_goes_on(self):
        desk = begun()
        for line in (10, 11, 12):
            with self.assertRaises(NoCell):
                desk.attempt(lambda given: (many_changes(given), given.move_out("z")))
            desk.put(line, "use b")
            desk.attempt(lambda given: given.put(2, "input a"))
            desk.undo()
        seen = past_of(desk)
        self.assertEqual(seen[0], (PAST[0][0] + "\nuse b\nuse b\nuse b", ["both", "inner"]))
        self.assertEqual((len(seen), seen[3:]), (len(PAST) + 3, PAST))


class Nested(unittest.TestCase):
    def test_an_inner_one_that_fails_and_is_caught(self):
        desk = begun()

        def inner(given):
            given.drop_guard("inner")
            for _ in range(4):
                given.undo()
            given.put(2, "use b")
            raise Broken

        def outer(given):
            given.put(2, "use a")
            try:
                given.attempt(inner)
            except Broken:
                given.put(3, "input a")
            return given.program.text.split("\n")[1:4]
        self.assertEqual(desk.attempt(outer), ["use a", "input a", "input a"])
        seen = past_of(desk)
        self.assertEqual((len(seen), seen[2:]), (len(PAST) + 2, PAST))

    def test_an_inner_one_that_fails(self):
        desk = begun()
        error = Broken()

        def inner(given):
            given.undo()
            given.put(2, "use b")
            raise error

        def outer(given):
            given.put(2, "use a")
            given.attempt(inner)
        with self.assertRaises(Broken) as caught:
            desk.attempt(outer)
        self.assertIs(caught.exception, error)
        self.assertEqual(past_of(desk), PAST)

    def test_an_outer_one_that_fails(self):
        desk = begun()

        def outer(given):
            self.assertEqual(given.attempt(lambda again: again.attempt(many_changes)), None)
            self.assertEqual(given.attempt(lambda again: [again.undo(), again.put(2, "use b")][1:]), [None])
            raise Broken
        with self.assertRaises(Broken):
            desk.attempt(outer)
        self.assertEqual(past_of(desk), PAST)

    def test_good_ones(self):
        desk = begun()
        self.assertEqual(desk.attempt(lambda one: (one.put(2, "use a"), one.attempt(lambda two: two.put(2, "use a")),
                                                   one.put(2, "use a"), 5)[3]), 5)
        seen = past_of(desk)
        self.assertEqual((len(seen), seen[3:]), (len(PAST) + 3, PAST))
        self.assertEqual([text.count("use a") for text, _ in seen[:4]], [4, 3, 2, 1])

    def test_many_deep(self):
        desk = Desk(Program("local a"))

        def deeper(given, depth):
            given.put(2, "use a")
            if depth == 30:
                raise Broken
            try:
                given.attempt(lambda again: deeper(again, depth + 1))
            except Broken:
                if depth != 17:
                    raise
            given.put(2, "input a")
        deeper(desk, 1)
        self.assertEqual(desk.program.text.split("\n"), ["local a", *["input a"] * 17, *["use a"] * 17])
        self.assertEqual(len(past_of(desk)), 35)


class ManyChanges(unittest.TestCase):
    def test_undone_one_by_one(self):
        desk = begun()

        def action(given):
            for _ in range(40):
                given.put(2, "use a\ninput a")
                given.drop(2, 3)
            return "done"
        self.assertEqual(desk.attempt(action), "done")
        seen = past_of(desk)
        self.assertEqual((len(seen), seen[80:]), (len(PAST) + 80, PAST))
        self.assertEqual({text.count("input a") for text, _ in seen[1:80:2]}, {2})
        self.assertEqual({text.count("input a") for text, _ in seen[:80:2]}, {1})

    def test_given_up(self):
        desk = begun()
        for _ in range(100):
            desk.put(2, "use a")
            desk.drop(2, 2)
        error = Broken()

        def action(given):
            for _ in range(150):
                given.undo()
            for _ in range(100):
                given.put(2, "use a")
                given.drop(2, 2)
            raise error
        with self.assertRaises(Broken):
            desk.attempt(action)
        seen = past_of(desk)
        self.assertEqual((len(seen), seen[200:]), (len(PAST) + 200, PAST))

    def test_many_attempts(self):
        desk = begun()
        for at in range(200):
            def action(given):
                given.put(2, "use b" if at < 100 else "use c")
            if at < 100:
                desk.attempt(lambda given: (action(given), given.drop(2, 2)))
            else:
                with self.assertRaises(FrameError):
                    desk.attempt(lambda given: (given.undo(), action(given)))
        seen = past_of(desk)
        self.assertEqual((len(seen), seen[200:]), (len(PAST) + 200, PAST))


class Drawn(unittest.TestCase):
    """Drawn edits and attempts at a desk and at that of the second reading."""

    def outcome(self, call, *given):
        try:
            result = call(*given)
        except FrameError as error:
            return (error.__class__.__name__, vars(error))
        self.assertIsNone(result)
        return None

    def step(self, draw, second):
        """The name of a method, and arguments for it."""
        many = len(second.lines())
        cells = cells_of(second.text()) + ["z"] * (draw.random() < 0.05)
        cell, other = (draw.choice(cells or ["z"]) for _ in range(2))
        method = draw.choice(["put"] * 6 + ["drop"] * 5 + ["move_out"] * 2 + ["add_guard"] * 6 + ["drop_guard", "undo", "undo"])
        lines = [f"use {cell}", f"input {cell}", f"point {cell} to {other}", f"copy {cell} to {other}", "block\nend",
                 f"use {cell}\ninput {other}", "maybe\nelse", "end", "local e", f"block\nlocal e\nuse e\npoint {cell} to e\nend"]
        first = draw.randint(1, many + 1) if draw.random() < 0.95 else draw.randint(-1, many + 3)
        return method, {
            "put": (first, draw.choice(lines)),
            "drop": (first, first + draw.choice([0, 0, 0, 1, 1, 2, -1, 5])),
            "move_out": (cell,),
            "add_guard": (draw.choice(["one", "two", "three", "One"]), draw.sample(cells, draw.randint(0, min(3, len(cells))))),
            "drop_guard": (draw.choice(["one", "two", "three"]),),
            "undo": (),
        }[method]

    def is_small_behind(self, second, method, given):
        """Whether the second reading can be asked about the text behind a step."""
        if method not in ("put", "drop"):
            return True
        trial = SecondDesk(second.text())
        getattr(trial, method)(*given)
        return first_wrong(trial.text()) is not None or is_small(Program(trial.text()), 120)

    def do_steps(self, draw, desk, second, many, depth):
        for _ in range(many):
            if depth < 3 and draw.random() < 0.15:
                self.do_attempt(draw, desk, second, depth)
                continue
            method, given = self.step(draw, second)
            if self.is_small_behind(second, method, given):
                told = self.outcome(getattr(desk, method), *given)
                self.assertEqual(told, getattr(second, method)(*given), (second.text(), method, given))
                self.counts[method, told and told[0]] = self.counts.get((method, told and told[0]), 0) + 1
            self.assertEqual((desk.program.text, desk.guards()), (second.text(), second.guards()))

    def do_attempt(self, draw, desk, second, depth):
        before = list(second.states)
        error = draw.choice([None, Broken(), NoCell("q"), KeyboardInterrupt()])

        def action(given):
            self.do_steps(draw, given, second, draw.randint(0, 5), depth + 1)
            if error is not None:
                raise error
            return before
        if error is None:
            self.assertIs(desk.attempt(action), before)
        else:
            with self.assertRaises(type(error)) as caught:
                desk.attempt(action)
            self.assertIs(caught.exception, error)
            second.states = before
        self.assertEqual((desk.program.text, desk.guards()), (second.text(), second.guards()))

    def test_against_the_second_reading(self):
        self.counts = {}
        for seed in range(250):
            draw = Random(seed)
            make = draw.choice([made_nest, made_program])
            program = small_program(make(seed, draw.randint(3, 9), draw.randint(2, 4)), 60)
            if program is not None:
                desk, second = Desk(program), SecondDesk(program.text)
                self.do_steps(draw, desk, second, 25, 0)
                self.assertEqual(past_of(desk), [
                    (text, sorted(guards)) for text, guards in reversed(second.states)
                ])
        for method, error in (
            ("put", None), ("put", "NoLine"), ("put", "BadProgram"), ("put", "Barred"), ("drop", None), ("drop", "NoLine"),
            ("drop", "BadProgram"), ("drop", "Barred"), ("move_out", None), ("move_out", "NoCell"), ("move_out", "Outermost"),
            ("add_guard", None), ("add_guard", "BadName"), ("add_guard", "Taken"), ("add_guard", "NoCell"),
            ("add_guard", "BadLot"), ("add_guard", "Barred"), ("drop_guard", None), ("drop_guard", "NoGuard"), ("undo", None),
            ("undo", "NothingToUndo"),
        ):
            self.assertGreater(self.counts.get((method, error), 0), 9, (method, error))


if __name__ == "__main__":
    unittest.main()
