"""All cases that occur in the runs of a program with own places.

Only one run goes on from each case: what can happen from a case depends on the case alone.
"""

from frameplaces.layouts import places_in
from frameplaces.running import Choices, Run, advance, cell_at


class Case:
    """A case: a run that comes to it, and its cells that were written, in the order of their last writes.

    The run comes from the case with the number `origin` (None at the beginning) by `choices`.
    """

    def __init__(self, state, order, origin, choices):
        self.state = state
        self.order = order
        self.origin = origin
        self.choices = choices

    def key(self, cells):
        """What all runs that come to this case have in common: inputs count only as equal or not."""
        numbers = {}
        worths = []
        for cell in cells:
            worth = self.state.worth(cell)
            if isinstance(worth, int):
                worth = numbers.setdefault(worth, len(numbers))
            worths.append(worth)
        return (self.state.line, self.state.calling, tuple(worths), tuple(self.state.known), self.order)


class Sight:
    """The events of what counts as one line, in the case with this number: reads come first in them."""

    def __init__(self, number, choices, events):
        self.number = number
        self.choices = choices
        self.events = events
        self.line = events[0][1]


class Cases:
    """The cases of a program, in the order of their distance from the beginning, and what is read in them."""

    def __init__(self, program):
        self.met = []
        self.sights = []
        self._cells = program.cells
        self._rows = program.sheet.rows
        self._keys = {}
        places = places_in(program.cells, ())
        self._add(Case(Run(places, self._rows[0].after), (), None, []))

    def go_on(self, number):
        """Add what can happen next in a case."""
        case = self.met[number]
        for choices in self._ways_on(case.state):
            state = case.state.branch()
            events = advance(state, self._rows, Choices(choices))
            if len(events) > 0 and events[0][0] == "read":
                self.sights.append(Sight(number, choices, events))
            self._add(Case(state, _order_behind(case.order, events), number, choices))

    def is_wrong(self, sight, lot):
        """Whether one of the events is wrong for a lot."""
        case = self.met[sight.number]
        written = [cell for cell in case.order if cell in lot]
        pointed = {}
        for kind, _, cell, worth in sight.events:
            if kind == "read":
                if cell in lot and len(written) > 0 and case.state.worth(written[-1]) != worth:
                    return True
                if cell_at(worth) in lot:
                    pointed[worth] = True
            if kind == "same" and len(pointed) == 2:
                return True
        return False

    def first_wrong(self, lot):
        """The nearest sight with a wrong event for a lot, or None."""
        for sight in self.sights:
            if self.is_wrong(sight, lot):
                return sight
        return None

    def way_through(self, sight):
        """The choices that lead a run to a sight, and through it."""
        parts = [sight.choices]
        number = sight.number
        while number is not None:
            parts.append(self.met[number].choices)
            number = self.met[number].origin
        return [choice for part in reversed(parts) for choice in part]

    def _add(self, case):
        key = case.key(self._cells)
        if key not in self._keys:
            self._keys[key] = True
            self.met.append(case)

    def _ways_on(self, state):
        """Lists of choices for what counts as the next line, enough of them to come to every next case."""
        row = self._rows[state.line]
        if state.line == 0:
            ways = []
        elif state.calling:
            ways = self._ways_to_act(state)
        elif row.word in ("loop", "maybe"):
            ways = [[0], [1]]
        elif row.word == "input":
            ways = [[worth] for worth in self._inputs_for(state, row.names[0])]
        else:
            ways = [[]]
        return ways

    def _ways_to_act(self, state):
        ways = [[0]]
        many = len(state.known)
        for number, cell in enumerate(state.known, start=1):
            ways.append([number, -1])
            ways.extend([[number, 0, worth] for worth in self._inputs_for(state, cell)])
            ways.extend([[number, deed] for deed in range(1, many + 2)])
        return ways

    def _inputs_for(self, state, cell):
        """The inputs that the other cells hold, and one that none of them holds."""
        others = [state.worth(other) for other in self._cells if other != cell]
        inputs = sorted(set([worth for worth in others if isinstance(worth, int)]))
        fresh = min([worth for worth in range(len(self._cells)) if worth not in inputs])
        return [*inputs, fresh]


def _order_behind(order, events):
    """The order of the last writes behind some events."""
    cells = list(order)
    for event in events:
        if event[0] == "write":
            cells = [*[cell for cell in cells if cell != event[2]], event[2]]
    return tuple(cells)


def find_cases(program):
    """All cases of a program."""
    cases = Cases(program)
    number = 0
    while number < len(cases.met):
        cases.go_on(number)
        number += 1
    return cases
