"""Reading the text of a program: which lines are right, and which line is done after which."""

from frameplaces.errors import BadProgram

MOST_LINES = 40
MOST_CELLS = 5
MOST_OPEN = 5
LONGEST_NAME = 12

# What stands behind the first word of a line; "" stands for the name of a cell.
FORMS = {
    "input": ("",),
    "copy": ("", "to", ""),
    "point": ("", "to", ""),
    "load": ("", "from", ""),
    "store": ("", "to", ""),
    "use": ("",),
    "call": ("",),
    "block": (),
    "loop": (),
    "maybe": (),
    "same": ("", ""),
    "else": (),
    "end": (),
}
WORDS = (
    "local", "block", "loop", "maybe", "same", "else", "end", "input", "copy", "point", "load", "store",
    "use", "call", "to", "from",
)
OPENING = ("block", "loop", "maybe", "same")
TWO_SIDED = ("maybe", "same")
PASSED = ("local", "block", "else", "end")


def is_name(text):
    """Whether a text is a name."""
    if text in WORDS or not 1 <= len(text) <= LONGEST_NAME:
        return False
    return all(["a" <= letter <= "z" for letter in text])


def lines_of(text):
    """The lines of a text."""
    if text == "":
        return []
    return text.split("\n")


def fits(words, form):
    """Whether the words behind the first one have the form, whatever cells they name."""
    if len(words) != len(form):
        return False
    return all([part in ("", word) for word, part in zip(words, form)])


class Row:
    """A line: its first word, the cells that it names, and the lines that may be done next.

    The next line is `after`; behind the last round of a loop, and at the second side of `maybe` and `same`, it is
    `other`.
    """

    def __init__(self, word, names, number):
        self.word = word
        self.names = names
        self.after = number + 1
        self.other = 0


class Sheet:
    """The lines of a program. A block goes by the number of the line that opens it, the text itself by 0."""

    def __init__(self):
        self.rows = [Row("", (), 0)]
        self.homes = {}
        self.around = {}
        self._nest = [0]

    def is_closed(self):
        """Whether no block but the text is open."""
        return len(self._nest) == 1

    def blocks_around(self, name):
        """The blocks that a cell is declared in, from its own outwards to the text itself."""
        blocks = [self.homes[name]]
        while blocks[-1] != 0:
            blocks.append(self.around[blocks[-1]])
        return blocks

    def take_line(self, line):
        """Take one line more, and tell whether it is right; a sheet with a wrong line is of no use."""
        parts = line.split(" ")
        word = parts[0]
        words = parts[1:]
        if word == "local":
            right = self._declare(words)
        elif word in FORMS and fits(words, FORMS[word]):
            right = self._take_row(word, words)
        else:
            right = False
        return right

    def find_ways(self):
        """Let `after` and `other` of all lines be lines that are done, or 0 behind the end of the text."""
        for row in list(self.rows):
            if row.word not in PASSED:
                row.after = self._landing(row.after)
                row.other = self._landing(row.other)

    def _landing(self, number):
        while number < len(self.rows) and self.rows[number].word in PASSED:
            number = self.rows[number].after
        return number if number < len(self.rows) else 0

    def _declare(self, names):
        number = len(self.rows)
        if len(names) == 0 or self._nest[-1] != number - 1:
            return False
        for name in names:
            if not is_name(name) or name in self.homes or len(self.homes) == MOST_CELLS:
                return False
            self.homes[name] = number - 1
        self.rows.append(Row("local", tuple(names), number))
        return True

    def _take_row(self, word, words):
        names = [name for name, part in zip(words, FORMS[word]) if part == ""]
        if not all([self._is_seen(name) for name in names]):
            return False
        number = len(self.rows)
        self.rows.append(Row(word, tuple(names), number))
        right = True
        if word in OPENING:
            right = self._open_block(number)
        elif word == "else":
            right = self._turn(number)
        elif word == "end":
            right = self._close_block(number)
        return right

    def _is_seen(self, name):
        return name in self.homes and self.homes[name] in self._nest

    def _open_block(self, number):
        if len(self._nest) > MOST_OPEN:
            return False
        self.around[number] = self._nest[-1]
        self._nest.append(number)
        return True

    def _turn(self, number):
        """Close the first side and open the second one."""
        first = self._nest[-1]
        if self.rows[first].word not in TWO_SIDED:
            return False
        self.rows[first].other = number + 1
        self.around[number] = self.around[first]
        self._nest[-1] = number
        return True

    def _close_block(self, number):
        first = self._nest[-1]
        if first == 0:
            return False
        opener = self.rows[first]
        if opener.word == "else":
            # The run meets this line only behind the first side.
            opener.after = number
        else:
            opener.other = number + 1
        if opener.word == "loop":
            self.rows[number].after = first
        self._nest.pop()
        return True


def read_sheet(text, most):
    """Read a program of at most so many lines; raise BadProgram with the first wrong line."""
    sheet = Sheet()
    lines = lines_of(text)
    for number, line in enumerate(lines, start=1):
        if number > most or not sheet.take_line(line):
            raise BadProgram(number)
    if not sheet.is_closed():
        raise BadProgram(len(lines) + 1)
    sheet.find_ways()
    return sheet
