"""Doing the lines of a program, one at a time.

A worth is an integer, None for unset, or a text: `&b` is the address of the cell `b`.
"""


def cell_at(worth):
    """The cell whose address a worth is, or None."""
    return worth[1:] if isinstance(worth, str) else None


class Choices:
    """The choices that lead a run."""

    def __init__(self, choices):
        self._left = list(choices)
        self._left.reverse()

    def take(self):
        """The next choice, or None if none is left."""
        return self._left.pop() if len(self._left) > 0 else None


class Run:
    """Where a run is, what the places hold, and the known cells in ascending order.

    `line` is the line that is done next, 0 if none is; with `calling` the run is within the call of this line.
    """

    def __init__(self, places, line):
        self.line = line
        self.calling = False
        self.known = []
        self._places = places
        self._held = {}

    def branch(self):
        """A run of its own that is where this one is."""
        other = Run(self._places, self.line)
        other.calling = self.calling
        other.known = list(self.known)
        other._held = dict(self._held)
        return other

    def worth(self, cell):
        """What is read from a cell."""
        return self._held.get(self._places[cell])

    def read(self, cell):
        """The event of a read."""
        return ("read", self.line, cell, self.worth(cell))

    def write(self, cell, worth):
        """Write a worth to a cell; the event of it."""
        self._held[self._places[cell]] = worth
        return ("write", self.line, cell, worth)

    def learn(self, worth):
        """Make the cell known whose address a worth is, if it is one."""
        cell = cell_at(worth)
        if cell is not None and cell not in self.known:
            self.known = sorted([*self.known, cell])

    def finds_same(self, worth, other):
        """The answer to whether two worths are the same."""
        if isinstance(worth, str) and isinstance(other, str):
            return self._places[cell_at(worth)] == self._places[cell_at(other)]
        return worth == other

    def stop(self):
        """Stop the run here."""
        self.line = 0
        self.calling = False

    def leave_call(self, row):
        """End the call that the run is within."""
        self.line = row.after
        self.calling = False


def _transfer(run, row, source, target):
    """Read one cell and write another one."""
    events = [run.read(source), run.write(target, run.worth(source))]
    run.line = row.after
    return events


# Each of the next functions takes the same arguments, since all are called through one table.


def _do_input(run, row, choices):
    choice = choices.take()
    if choice is None:
        run.stop()
        return []
    events = [run.write(row.names[0], choice)]
    run.line = row.after
    return events


def _do_copy(run, row, choices):
    source, target = row.names
    return _transfer(run, row, source, target)


def _do_point(run, row, choices):
    pointer, target = row.names
    events = [run.write(pointer, f"&{target}")]
    run.line = row.after
    return events


def _do_load(run, row, choices):
    target, pointer = row.names
    source = cell_at(run.worth(pointer))
    events = [run.read(pointer)]
    if source is None:
        run.stop()
    else:
        events.extend(_transfer(run, row, source, target))
    return events


def _do_store(run, row, choices):
    source, pointer = row.names
    target = cell_at(run.worth(pointer))
    events = [run.read(pointer)]
    if target is None:
        run.stop()
    else:
        events.extend(_transfer(run, row, source, target))
    return events


def _do_use(run, row, choices):
    events = [run.read(row.names[0])]
    run.line = row.after
    return events


def _do_call(run, row, choices):
    pointer = row.names[0]
    run.learn(run.worth(pointer))
    run.calling = True
    return [run.read(pointer)]


def _do_same(run, row, choices):
    one, other = row.names
    answer = run.finds_same(run.worth(one), run.worth(other))
    events = [run.read(one), run.read(other), ("same", run.line, None, answer)]
    run.line = row.after if answer else row.other
    return events


def _do_loop(run, row, choices):
    choice = choices.take()
    if choice is None:
        run.stop()
    else:
        run.line = row.other if choice == 0 else row.after
    return []


def _do_maybe(run, row, choices):
    choice = choices.take()
    if choice is None:
        run.stop()
    else:
        run.line = row.after if choice == 0 else row.other
    return []


LINES = {
    "input": _do_input,
    "copy": _do_copy,
    "point": _do_point,
    "load": _do_load,
    "store": _do_store,
    "use": _do_use,
    "call": _do_call,
    "same": _do_same,
    "loop": _do_loop,
    "maybe": _do_maybe,
}


def _act(run, row, choices):
    """One read or write of the called procedure, or the end of the call."""
    choice = choices.take()
    if choice is None:
        run.stop()
        return []
    if not 1 <= choice <= len(run.known):
        run.leave_call(row)
        return []
    cell = run.known[choice - 1]
    deed = choices.take()
    if deed is None:
        run.stop()
        return []
    if deed < 0:
        run.learn(run.worth(cell))
        return [run.read(cell)]
    return _act_write(run, row, choices, cell, deed)


def _act_write(run, row, choices, cell, deed):
    many = len(run.known)
    if deed > many + 1:
        run.leave_call(row)
        return []
    if deed == many + 1:
        return [run.write(cell, None)]
    if deed > 0:
        return [run.write(cell, f"&{run.known[deed - 1]}")]
    choice = choices.take()
    if choice is None:
        run.stop()
        return []
    return [run.write(cell, choice)]


def advance(run, rows, choices):
    """Let a run go on by what counts as one line; the list of the events of it."""
    row = rows[run.line]
    if run.calling:
        return _act(run, row, choices)
    action = LINES[row.word]
    return action(run, row, choices)
