"""The errors of the package."""


class FrameError(ValueError):
    """What every error of this package is."""


class BadProgram(FrameError):
    """A text is no program; `line` is its first wrong line."""

    def __init__(self, line):
        super().__init__(f"line {line} is wrong")
        self.line = line


class NoCell(FrameError):
    """A program has no cell of this name."""

    def __init__(self, name):
        super().__init__(f"there is no cell {name!r}")
        self.name = name


class BadLot(FrameError):
    """A lot is empty, has a cell twice, or has a cell of an earlier lot."""

    def __init__(self, index):
        super().__init__(f"lot {index} is empty or has a cell that was met before")
        self.index = index


class Outermost(FrameError):
    """A cell cannot be moved outwards any more."""

    def __init__(self, name):
        super().__init__(f"the block of {name!r} is the outermost one")
        self.name = name


class BadName(FrameError):
    """A text is no name."""

    def __init__(self, name):
        super().__init__(f"{name!r} is no name")
        self.name = name


class Taken(FrameError):
    """There is a guard of this name already."""

    def __init__(self, name):
        super().__init__(f"there is a guard {name!r} already")
        self.name = name


class NoGuard(FrameError):
    """There is no guard of this name."""

    def __init__(self, name):
        super().__init__(f"there is no guard {name!r}")
        self.name = name


class Barred(FrameError):
    """Guards that would not be kept bar a change."""

    def __init__(self, names):
        told = ", ".join(names)
        super().__init__(f"the guards {told} would not be kept")
        self.names = list(names)


class NoLine(FrameError):
    """A program has no such line."""

    def __init__(self, line):
        super().__init__(f"there is no line {line}")
        self.line = line


class NothingToUndo(FrameError):
    """No change is left that could be undone."""

    def __init__(self):
        super().__init__("there is nothing to undo")
