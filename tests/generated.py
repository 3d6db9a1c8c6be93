"""Programs that are made up for the tests, the same ones each time."""

from random import Random

JOINTS = {"copy": "to", "point": "to", "store": "to", "load": "from"}
DEEDS = ("input", "input", "copy", "copy", "point", "point", "load", "store", "use", "use", "call")


class Maker:
    """Makes the lines of one program up."""

    def __init__(self, seed, many_cells):
        self.draw = Random(seed)
        self.names = self.draw.sample("abcde", many_cells)
        self.lines = []

    def deed(self, seen):
        word = self.draw.choice(DEEDS)
        one, other = self.draw.choice(seen), self.draw.choice(seen)
        return f"{word} {one} {JOINTS[word]} {other}" if word in JOINTS else f"{word} {one}"

    def declare(self, many):
        mine = [self.names.pop() for _ in range(many)]
        if mine:
            self.lines.append(" ".join(["local", *mine]))
        return mine

    def fill(self, seen, depth, size):
        """The lines of a block: so many, without those that open and close blocks."""
        while size > 0:
            if size > 1 and depth < 3 and self.draw.random() < 0.3:
                inner = self.draw.randint(0, size)
                size -= inner
                self.open_block(seen, depth, inner)
            else:
                self.lines.append(self.deed(seen))
            size -= 1

    def open_block(self, seen, depth, size):
        word = self.draw.choice(["block", "loop", "maybe", "same"])
        named = [self.draw.choice(seen) for _ in range(2)] if word == "same" else []
        self.lines.append(" ".join([word, *named]))
        if word in ("maybe", "same") and self.draw.random() < 0.7:
            self.fill(seen + self.declare(self.draw.randint(0, min(1, len(self.names)))), depth + 1, size // 2)
            self.lines.append("else")
            size -= size // 2
        self.fill(seen + self.declare(self.draw.randint(0, len(self.names))), depth + 1, size)
        self.lines.append("end")


def made_program(seed, many_lines, many_cells):
    """The text of a right program of about so many lines and at most so many cells."""
    maker = Maker(seed, many_cells)
    seen = maker.declare(maker.draw.randint(2, many_cells))
    for name in seen:
        if maker.draw.random() < 0.7:
            maker.lines.append(f"point {name} to {maker.draw.choice(seen)}")
    maker.fill(seen, 0, many_lines)
    return "\n".join(maker.lines)
