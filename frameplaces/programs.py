"""Programs and their runs."""

from frameplaces.errors import NoCell, Outermost
from frameplaces.layouts import check_layout, places_in
from frameplaces.reading import MOST_LINES, lines_of, read_sheet
from frameplaces.running import Choices, Run, advance


class Program:
    """A program, read from its text."""

    def __init__(self, text):
        self._hold(text, read_sheet(text, MOST_LINES))

    def __eq__(self, other):
        return isinstance(other, Program) and self.text == other.text

    def run(self, choices, *, layout=()):
        """The list of the events of a run."""
        return list(self.steps(choices, layout=layout))

    def steps(self, choices, *, layout=()):
        """Yield the events of a run."""
        check_layout(self.cells, layout)
        rows = self.sheet.rows
        state = Run(places_in(self.cells, layout), rows[0].after)
        left = Choices(choices)
        while state.line > 0:
            events = advance(state, rows, left)
            yield from events

    def opened_at(self, cell):
        """The number of the line that opens the block of a cell, 0 for the text itself."""
        self._check_cell(cell)
        return self.sheet.homes[cell]

    def moved(self, cell):
        """The program with a cell moved outwards by one block."""
        self._check_cell(cell)
        home = self.sheet.homes[cell]
        if home == 0:
            raise Outermost(cell)
        target = self.sheet.around[home]
        lines = lines_of(self.text)
        names = [name for name in self.sheet.rows[home + 1].names if name != cell]
        # The inner line is changed first: it is below, so the outer one keeps its number.
        lines[home:home + 1] = [" ".join(["local", *names])] if len(names) > 0 else []
        if self.sheet.rows[target + 1].word == "local":
            lines[target] = f"{lines[target]} {cell}"
        else:
            lines.insert(target, f"local {cell}")
        program = Program("")
        program._hold("\n".join(lines), read_sheet("\n".join(lines), len(lines)))
        return program

    def _hold(self, text, sheet):
        self.text = text
        self.cells = tuple(sheet.homes)
        self.sheet = sheet

    def _check_cell(self, cell):
        if cell not in self.cells:
            raise NoCell(cell)
