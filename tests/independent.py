"""A second reading of the document, for the tests only: it shares no code with the package.

A program is parsed into nested blocks and run by recursion. The search over all runs repeats each run from its
beginning with one choice more, the nearest runs first.
"""

import re
from heapq import heappop, heappush
from itertools import combinations


class Stopped(Exception):
    """The run stops: at a worth that is no address, or for want of a choice."""


def parse(text):
    """The lines of a right program as nested lists of (line, words, first side, second side)."""
    lines = text.split("\n") if text else []

    def side(at):
        items = []
        while at < len(lines) and lines[at] not in ("end", "else"):
            number = at + 1
            words = lines[at].split(" ")
            one, two = [], []
            if words[0] in ("block", "loop", "maybe", "same"):
                one, at = side(at + 1)
                if lines[at] == "else":
                    two, at = side(at + 1)
            items.append((number, words, one, two))
            at += 1
        return items, at

    return side(0)[0]


def cells_of(text):
    return [name for line in text.split("\n") if line.startswith("local ") for name in line.split(" ")[1:]]


class Replay:
    """One run, done from its beginning, perhaps in a layout.

    `log` has a tuple (length, event, written, held) for each event: the number of lines that were done up to it, the
    cells in the order of their last writes, and what the places hold, both just ahead of the event. `wants` tells for
    what a choice was wanted when none was left.
    """

    def __init__(self, text, choices, layout=()):
        self.cells = cells_of(text)
        self.choices = list(choices)
        self.place = {cell: cell for cell in self.cells}
        for lot in layout:
            for cell in lot:
                self.place[cell] = tuple(lot)
        self.held = {place: None for place in self.place.values()}
        self.known = set()
        self.written = []
        self.log = []
        self.length = 0
        self.wants = None
        try:
            self.do_all(parse(text))
        except Stopped:
            pass

    def events(self):
        return [event for _, event, _, _ in self.log]

    def holds(self):
        return [self.held[self.place[cell]] for cell in self.cells]

    def wrong_events(self, lot, since=0):
        """The (length, line) of the wrong events for a lot, of a run with own places."""
        found = []
        for at in range(since, len(self.log)):
            length, (kind, line, cell, worth), written, held = self.log[at]
            if kind == "read" and cell in lot:
                mine = [other for other in written if other in lot]
                if mine and held[mine[-1]] != held[cell]:
                    found.append((length, line))
            if kind == "same":
                left, right = self.log[at - 2][1][3], self.log[at - 1][1][3]
                pair = [worth[1:] for worth in (left, right) if isinstance(worth, str)]
                if len(pair) == 2 and pair[0] != pair[1] and pair[0] in lot and pair[1] in lot:
                    found.append((length, line))
        return found

    def take(self, *wants):
        if not self.choices:
            self.wants = wants
            raise Stopped
        return self.choices.pop(0)

    def note(self, event):
        self.log.append((self.length, event, list(self.written), dict(self.held)))

    def read(self, line, cell):
        worth = self.held[self.place[cell]]
        self.note(("read", line, cell, worth))
        return worth

    def write(self, line, cell, worth):
        self.note(("write", line, cell, worth))
        self.held[self.place[cell]] = worth
        self.written = [other for other in self.written if other != cell] + [cell]

    def do_all(self, items):
        for line, words, one, two in items:
            getattr(self, "do_" + words[0])(line, words[1:], one, two)

    def do_local(self, line, words, one, two):
        pass

    def do_block(self, line, words, one, two):
        self.do_all(one)

    def do_loop(self, line, words, one, two):
        while self.take(line, "loop") != 0:
            self.length += 1
            self.do_all(one)
        self.length += 1

    def do_maybe(self, line, words, one, two):
        choice = self.take(line, "maybe")
        self.length += 1
        self.do_all(one if choice == 0 else two)

    def do_same(self, line, words, one, two):
        self.length += 1
        left = self.read(line, words[0])
        right = self.read(line, words[1])
        answer = left == right
        if isinstance(left, str) and isinstance(right, str):
            answer = self.place[left[1:]] == self.place[right[1:]]
        self.note(("same", line, None, answer))
        self.do_all(one if answer else two)

    def do_input(self, line, words, one, two):
        worth = self.take(line, "input")
        self.length += 1
        self.write(line, words[0], worth)

    def do_copy(self, line, words, one, two):
        self.length += 1
        worth = self.read(line, words[0])
        self.write(line, words[2], worth)

    def do_point(self, line, words, one, two):
        self.length += 1
        self.write(line, words[0], "&" + words[2])

    def do_load(self, line, words, one, two):
        self.length += 1
        address = self.read(line, words[2])
        if not isinstance(address, str):
            raise Stopped
        worth = self.read(line, address[1:])
        self.write(line, words[0], worth)

    def do_store(self, line, words, one, two):
        self.length += 1
        address = self.read(line, words[2])
        if not isinstance(address, str):
            raise Stopped
        worth = self.read(line, words[0])
        self.write(line, address[1:], worth)

    def do_use(self, line, words, one, two):
        self.length += 1
        self.read(line, words[0])

    def do_call(self, line, words, one, two):
        self.length += 1
        self.learn(self.read(line, words[0]))
        while self.act(line):
            pass
        self.length += 1

    def learn(self, worth):
        if isinstance(worth, str):
            self.known.add(worth[1:])

    def act(self, line):
        """One deed of the called procedure; False if it ends."""
        order = sorted(self.known)
        first = self.take(line, "who")
        if not 0 < first <= len(order):
            return False
        cell = order[first - 1]
        second = self.take(line, "what", cell)
        if second > len(order) + 1:
            return False
        worth = None
        if second == 0:
            worth = self.take(line, "worth", cell)
        elif 0 < second <= len(order):
            worth = "&" + order[second - 1]
        self.length += 1
        if second < 0:
            self.learn(self.read(line, cell))
        else:
            self.write(line, cell, worth)
        return True


def lots_of(cells):
    """All lots of one or more cells."""
    return [lot for many in range(1, len(cells) + 1) for lot in combinations(sorted(cells), many)]


def renamed(worths):
    """The worths with the inputs numbered in the order in which they are met."""
    numbers = {}
    return tuple(numbers.setdefault(w, len(numbers)) if isinstance(w, int) else w for w in worths)


def options(replay):
    """All choices that may matter where a run wants one."""
    many = len(replay.known)
    return {
        "loop": range(2),
        "maybe": range(2),
        "input": range(len(replay.cells)),
        "worth": range(len(replay.cells)),
        "who": range(many + 1),
        "what": range(-1, many + 3),
    }[replay.wants[1]]


class Search:
    """All that runs with own places can show of the lots of a program.

    For each lot `least` has the least length up to a wrong event (None: no run has one), and `lines` the set of the
    wrong lines. Without `exchange` cases with other inputs are taken for other cases, so that nothing depends on how
    inputs are numbered.
    """

    def __init__(self, text, exchange=False):
        self.text = text
        self.exchange = exchange
        self.lots = lots_of(cells_of(text))
        self.least = {lot: None for lot in self.lots}
        self.lines = {lot: set() for lot in self.lots}
        self.queue = []
        self.tickets = 0
        self.look((), 0)
        met = set()
        while self.queue:
            _, _, choices, replay = heappop(self.queue)
            key = self.key(replay)
            if key not in met:
                met.add(key)
                for choice in options(replay):
                    self.look((*choices, choice), len(replay.log))

    def look(self, choices, since):
        """Do a run, look at its events from one of them on, and queue it if it wants one more choice."""
        replay = Replay(self.text, choices)
        for lot in self.lots:
            for length, line in replay.wrong_events(lot, since):
                self.lines[lot].add(line)
                if self.least[lot] is None or length < self.least[lot]:
                    self.least[lot] = length
        if replay.wants is not None:
            self.tickets += 1
            heappush(self.queue, (replay.length, self.tickets, choices, replay))

    def key(self, replay):
        holds = renamed(replay.holds()) if self.exchange else tuple(replay.holds())
        return (replay.wants, holds, tuple(sorted(replay.known)), tuple(replay.written))


KEYWORDS = "local block loop maybe same else end input copy point load store use call to from".split()
SHAPES = (
    r"(input|use|call) (\S+)",
    r"(copy|point|store) (\S+) to (\S+)",
    r"(load) (\S+) from (\S+)",
    r"(same) (\S+) (\S+)",
    r"(block|loop|maybe|else|end)",
)


def first_wrong(text):
    """The first wrong line of a text, or None if it is a program."""
    lines = text.split("\n") if text else []
    declared = []
    open_blocks = [["text", set()]]
    for number, line in enumerate(lines, start=1):
        if number == 41:
            return 41
        before = lines[number - 2] if number > 1 else "block"
        if re.fullmatch(r"local( [a-z]{1,12})+", line):
            names = line.split(" ")[1:]
            declared += names
            if not re.match(r"(block|loop|maybe|same|else)\b", before):
                return number
            if len(declared) > 5 or len(set(declared)) < len(declared) or set(names) & set(KEYWORDS):
                return number
            open_blocks[-1][1].update(names)
            continue
        found = [match for match in (re.fullmatch(shape, line) for shape in SHAPES) if match]
        if not found:
            return number
        word, *names = found[0].groups()
        if not set(names) <= set().union(*[seen for _, seen in open_blocks]):
            return number
        if word in ("else", "end"):
            closed = open_blocks.pop()[0]
            if closed not in {"else": ("maybe", "same"), "end": ("block", "loop", "maybe", "same", "else")}[word]:
                return number
        if word in ("block", "loop", "maybe", "same", "else"):
            open_blocks.append([word, set()])
        if len(open_blocks) > 6:
            return number
    return len(lines) + 1 if len(open_blocks) > 1 else None
