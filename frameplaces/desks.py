"""Editing a program at a desk, with guards over lots that must remain right."""

from frameplaces.cases import find_cases
from frameplaces.errors import BadName, Barred, NoGuard, NoLine, NothingToUndo, Taken
from frameplaces.layouts import check_layout
from frameplaces.programs import Program
from frameplaces.reading import is_name, lines_of


class Desk:
    """A program that is being edited, and its guards.

    The program and the dict of the guards are never modified, only replaced, so that what they were can be kept.
    """

    def __init__(self, program):
        self._program = program
        self._guards = {}
        self._past = []

    @property
    def program(self):
        """The present program."""
        return self._program

    def put(self, line, text):
        """Put the lines of a text ahead of a line."""
        lines = lines_of(self._program.text)
        if not 1 <= line <= len(lines) + 1:
            raise NoLine(line)
        self._edit(lines[:line - 1] + lines_of(text) + lines[line - 1:])

    def drop(self, first, last):
        """Take the lines from one to another one out."""
        lines = lines_of(self._program.text)
        if not 1 <= first <= len(lines):
            raise NoLine(first)
        if not first <= last <= len(lines):
            raise NoLine(last)
        self._edit(lines[:first - 1] + lines[last:])

    def move_out(self, cell):
        """Move a cell outwards by one block; no guard can be broken by that."""
        self._change(self._program.moved(cell), self._guards)

    def add_guard(self, name, lot):
        """Let a lot remain right from now on."""
        if not is_name(name):
            raise BadName(name)
        if name in self._guards:
            raise Taken(name)
        check_layout(self._program.cells, [lot])
        if find_cases(self._program).first_wrong(lot) is not None:
            raise Barred([name])
        self._change(self._program, {**self._guards, name: tuple(lot)})

    def drop_guard(self, name):
        """Take a guard away."""
        if name not in self._guards:
            raise NoGuard(name)
        self._change(self._program, {other: self._guards[other] for other in self._guards if other != name})

    def guards(self):
        """The names of the guards, in ascending order."""
        return sorted(self._guards)

    def undo(self):
        """Undo the latest change that is not undone."""
        if len(self._past) == 0:
            raise NothingToUndo()
        self._program, self._guards = self._past.pop()

    def attempt(self, action):
        """What the action returns for this desk; if it raises an error, the desk is as it was before."""
        program = self._program
        guards = self._guards
        past = list(self._past)
        finished = None
        try:
            result = action(self)
            finished = True
        finally:
            # Not a handler, since an exception of any class may come, and goes on as it is.
            if finished is None:
                self._program, self._guards, self._past = program, guards, past
        return result

    def _edit(self, lines):
        """Accept an edited text, or raise the error that it deserves."""
        program = Program("\n".join(lines))
        broken = self._broken_by(program)
        if len(broken) > 0:
            raise Barred(broken)
        self._change(program, self._guards)

    def _broken_by(self, program):
        """The ascending list of the names of the guards that a program would not keep."""
        if len(self._guards) == 0:
            # Without guards a program may have any number of cases.
            return []
        cases = find_cases(program)
        broken = []
        for name in self.guards():
            lot = self._guards[name]
            if not all([cell in program.cells for cell in lot]) or cases.first_wrong(lot) is not None:
                broken.append(name)
        return broken

    def _change(self, program, guards):
        self._past.append((self._program, self._guards))
        self._program = program
        self._guards = guards
