"""The examples of the document, word for word."""

import unittest

from frameplaces.errors import FrameError

PROGRAMS = r'''
>>> from frameplaces.programs import Program
>>> program = Program("local a x y z\ninput a\ncopy a to x\ninput y\ncopy a to z\nuse x")
>>> [program.run([5, 7])[3:], program.run([5, 7], layout=[["x", "y"]])[-1], program.run([5])[-1]]
[[('write', 4, 'y', 7), ('read', 5, 'a', 5), ('write', 5, 'z', 5), ('read', 6, 'x', 5)], ('read', 6, 'x', 7), ('write', 3, 'x', 5)]
>>> asked = Program("local p x y\npoint p to x\ncall p\ninput y\ncall p\nuse x")
>>> asked.run([1, -1, 0, 4, 1, 0, 9, 0])
[('write', 2, 'p', '&x'), ('read', 3, 'p', '&x'), ('read', 3, 'x', None), ('write', 4, 'y', 4), ('read', 5, 'p', '&x'), ('write', 5, 'x', 9), ('read', 6, 'x', 9)]
>>> kept = Program("local p r\nblock\nlocal x\ninput x\npoint p to x\nend\nblock\nlocal y\ninput y\nend\nload r from p")
>>> [kept.cells, kept.opened_at("y"), kept.moved("x").text]
[('p', 'r', 'x', 'y'), 7, 'local p r x\nblock\ninput x\npoint p to x\nend\nblock\nlocal y\ninput y\nend\nload r from p']
>>> looped = Program("local a b\nloop\ninput a\nsame a b\nuse a\nelse\ncopy a to b\nend\nend\nmaybe\nuse b\nend")
>>> [list(looped.steps([1, 4, 1, 4, 0, 0]))[2:5], looped.run([1, 4, 1, 4, 0, 0])[9:]]
[[('read', 4, 'b', None), ('same', 4, None, False), ('read', 7, 'a', 4)], [('same', 4, None, True), ('read', 5, 'a', 4), ('read', 11, 'b', 4)]]
>>> met = Program("local p q x y\npoint p to x\npoint q to y\nsame p q\nuse x\nelse\nuse y\nend")
>>> [met.run([])[-2:], met.run([], layout=[["x", "y"]])[-2:]]
[[('same', 4, None, False), ('read', 7, 'y', None)], [('same', 4, None, True), ('read', 5, 'x', None)]]
>>> met.run([], layout=[["x", "x"], ["z"]])
raises NoCell(name='z')
'''

LOTS = r'''
>>> from frameplaces.lots import is_right, right_lots, wrong_lines, wrong_run
>>> from frameplaces.programs import Program
>>> program = Program("local a x y z\ninput a\ncopy a to x\ninput y\ncopy a to z\nuse x")
>>> right_lots(program)
[['a', 'x'], ['a', 'x', 'z'], ['a', 'z'], ['x', 'y', 'z'], ['x', 'z'], ['y', 'z']]
>>> [wrong_lines(program, ["y", "a", "x"]), wrong_run(program, ["x", "z"])]
[[5, 6], None]
>>> asked = Program("local p x y\npoint p to x\ncall p\ninput y\ncall p\nuse x")
>>> [is_right(asked, ["x", "y"]), wrong_lines(asked, ["x", "y"]), is_right(asked, ["p", "y"])]
[False, [5, 6], False]
'''

FRAMES = r'''
>>> from frameplaces.frames import is_right_layout, smallest_frames
>>> from frameplaces.programs import Program
>>> program = Program("local a x y z\ninput a\ncopy a to x\ninput y\ncopy a to z\nuse x")
>>> smallest_frames(program)
[[['a'], ['x', 'y', 'z']], [['a', 'x'], ['y', 'z']], [['a', 'x', 'z'], ['y']]]
>>> [is_right_layout(program, [["z", "y"], ["x", "a"]]), is_right_layout(program, [["x", "y"]])]
[True, False]
'''

PLAIN = r'''
>>> from frameplaces.plain import lengthen, plain_pairs, wrong_pairs
>>> from frameplaces.programs import Program
>>> kept = Program("local p r\nblock\nlocal x\ninput x\npoint p to x\nend\nblock\nlocal y\ninput y\nend\nload r from p")
>>> [plain_pairs(kept), wrong_pairs(kept), lengthen(kept)]
[[('x', 'y')], [('p', 'x'), ('p', 'y'), ('x', 'y')], (1, [[('x', 1)], [('y', 1)]])]
'''

DESKS = r'''
>>> from frameplaces.desks import Desk
>>> from frameplaces.programs import Program
>>> desk = Desk(Program("local a b\ninput a\nuse a\ninput b\nuse b"))
>>> desk.add_guard("both", ["a", "b"])
>>> desk.put(4, "use a\nuse a")
>>> [desk.program.text, desk.guards()]
['local a b\ninput a\nuse a\nuse a\nuse a\ninput b\nuse b', ['both']]
>>> desk.put(8, "use a")
raises Barred(names=['both'])
>>> desk.drop(4, 5)
>>> desk.drop(3, 3)
>>> desk.undo()
>>> desk.program.text
'local a b\ninput a\nuse a\ninput b\nuse b'
'''


def outcome(source, names):
    """What an example shows: its value, or the error that it raises with its fields; None if nothing."""
    if source.startswith("from ") or " = " in source.split("(")[0]:
        exec(source, names)
        return None
    try:
        value = eval(source, names)
    except FrameError as error:
        fields = ", ".join(f"{name}={worth!r}" for name, worth in vars(error).items())
        return f"raises {error.__class__.__name__}({fields})"
    return None if value is None else repr(value)


class Examples(unittest.TestCase):
    def check(self, text, many):
        names = {}
        shown = 0
        lines = text.strip("\n").split("\n")
        for at, line in enumerate(lines):
            if line.startswith(">>> "):
                told = lines[at + 1] if at + 1 < len(lines) and not lines[at + 1].startswith(">>> ") else None
                with self.subTest(line=line):
                    self.assertEqual(outcome(line[4:], names), told)
                shown += told is not None
        self.assertEqual(shown, many)

    def test_programs(self):
        self.check(PROGRAMS, 6)

    def test_lots(self):
        self.check(LOTS, 3)

    def test_frames(self):
        self.check(FRAMES, 2)

    def test_plain(self):
        self.check(PLAIN, 1)

    def test_desks(self):
        self.check(DESKS, 3)


if __name__ == "__main__":
    unittest.main()
