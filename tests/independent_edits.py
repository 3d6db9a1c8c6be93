"""The second reading, continued: frames, plain cells, and a desk. It shares no code with the package.

Blocks are found by going through the lines with a stack of paths; cells are moved in the text, one block at a time;
the desk keeps everything that it ever was in one list.
"""

from itertools import combinations

from independent import KEYWORDS, Search, cells_of, first_wrong


def blocks_of(text):
    """The path of the block of each cell: the lines that open the blocks around it, the outermost first."""
    path, found = [], {}
    for number, line in enumerate(text.split("\n"), start=1):
        word, *names = line.split(" ")
        if word in ("else", "end"):
            path.pop()
        if word in ("block", "loop", "maybe", "same", "else"):
            path.append(number)
        if word == "local":
            found.update({name: tuple(path) for name in names})
    return found


def plain_in(text):
    """The pairs of plain cells: the paths of their blocks part before either ends."""
    blocks = blocks_of(text)
    found = []
    for one, other in combinations(sorted(blocks), 2):
        shorter = min(len(blocks[one]), len(blocks[other]))
        if blocks[one][:shorter] != blocks[other][:shorter]:
            found.append((one, other))
    return found


def wrong_in(search):
    return sorted(lot for lot in search.lots if len(lot) == 2 and search.least[lot] is not None)


def moved_text(text, cell):
    """The text with a cell moved outwards by one block; None if its block is the text itself."""
    lines = text.split("\n")
    path = blocks_of(text)[cell]
    if not path:
        return None
    home = path[-1]
    lines[home] = " ".join(word for word in lines[home].split(" ") if word != cell)
    if lines[home] == "local":
        del lines[home]
    outer = path[-2] if len(path) > 1 else 0
    if lines[outer].startswith("local "):
        lines[outer] += " " + cell
    else:
        lines.insert(outer, "local " + cell)
    return "\n".join(lines)


def lengthened(text, wrong):
    """All ways to move cells until no pair of `wrong` is plain: by one block more in all, until some are found."""
    count, found, level = 0, [], {(0,) * len(cells_of(text)): text}
    names = sorted(cells_of(text))
    while True:
        for way, made in level.items():
            if not set(plain_in(made)) & set(wrong):
                found.append([(name, many) for name, many in zip(names, way) if many])
        if found:
            return count, sorted(found)
        following = {}
        for way, made in level.items():
            for at, name in enumerate(names):
                further = moved_text(made, name)
                if further is not None:
                    following[way[:at] + (way[at] + 1,) + way[at + 1:]] = further
        level, count = following, count + 1


def divisions(names):
    """All ways to divide names into lots."""
    if not names:
        return [[]]
    found = []
    for rest in divisions(names[1:]):
        found.append([[names[0]]] + rest)
        for at in range(len(rest)):
            found.append(rest[:at] + [[names[0]] + rest[at]] + rest[at + 1:])
    return found


def frames_in(search, cells):
    """All frames of the smallest size."""
    found = [sorted(division) for division in divisions(sorted(cells))
             if all(search.least[tuple(lot)] is None for lot in division)]
    least = min(map(len, found))
    return sorted(frame for frame in found if len(frame) == least)


class SecondDesk:
    """A desk: all that it was since the beginning, as a list of texts and guards. Calls tell the error that is due."""

    searches = {}

    def __init__(self, text):
        self.states = [(text, {})]

    def text(self):
        return self.states[-1][0]

    def guards(self):
        return sorted(self.states[-1][1])

    def is_right(self, text, lot):
        if text not in self.searches:
            self.searches[text] = Search(text, True)
        return self.searches[text].least[tuple(sorted(lot))] is None

    def edit(self, lines):
        text, guards = "\n".join(lines), self.states[-1][1]
        line = first_wrong(text)
        if line is not None:
            return ("BadProgram", {"line": line})
        cells = set(cells_of(text))
        broken = [name for name, lot in guards.items() if set(lot) - cells or not self.is_right(text, lot)]
        if broken:
            return ("Barred", {"names": sorted(broken)})
        self.states.append((text, guards))
        return None

    def lines(self):
        return self.text().split("\n") if self.text() else []

    def put(self, line, text):
        lines = self.lines()
        if line not in range(1, len(lines) + 2):
            return ("NoLine", {"line": line})
        lines[line - 1:line - 1] = text.split("\n")
        return self.edit(lines)

    def drop(self, first, last):
        lines = self.lines()
        for line, low in ((first, 1), (last, first)):
            if line not in range(low, len(lines) + 1):
                return ("NoLine", {"line": line})
        return self.edit([line for at, line in enumerate(lines, start=1) if at < first or at > last])

    def move_out(self, cell):
        if cell not in cells_of(self.text()):
            return ("NoCell", {"name": cell})
        text = moved_text(self.text(), cell)
        if text is None:
            return ("Outermost", {"name": cell})
        self.states.append((text, self.states[-1][1]))
        return None

    def add_guard(self, name, lot):
        text, guards = self.states[-1]
        if not (1 <= len(name) <= 12 and name.isascii() and name.isalpha() and name.islower()) or name in KEYWORDS:
            return ("BadName", {"name": name})
        if name in guards:
            return ("Taken", {"name": name})
        for cell in lot:
            if cell not in cells_of(text):
                return ("NoCell", {"name": cell})
        if not lot or len(set(lot)) < len(lot):
            return ("BadLot", {"index": 0})
        if not self.is_right(text, lot):
            return ("Barred", {"names": [name]})
        self.states.append((text, {**guards, name: list(lot)}))
        return None

    def drop_guard(self, name):
        text, guards = self.states[-1]
        if name not in guards:
            return ("NoGuard", {"name": name})
        self.states.append((text, {other: lot for other, lot in guards.items() if other != name}))
        return None

    def undo(self):
        if len(self.states) == 1:
            return ("NothingToUndo", {})
        self.states.pop()
        return None
