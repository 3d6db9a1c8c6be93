"""Programs that are made up for the tests, the same ones each time."""

from random import Random

from frameplaces.cases import Cases
from frameplaces.programs import Program

JOINTS = {"copy": "to", "point": "to", "store": "to", "load": "from"}
DEEDS = ("input", "input", "copy", "copy", "point", "point", "load", "store", "use", "use", "call")


class Maker:
    """Makes the lines of one program up."""

    def __init__(self, seed, many_cells, deepest=3, often=0.3):
        self.draw = Random(seed)
        self.deepest = deepest
        self.often = often
        self.names = self.draw.sample("abcde", many_cells)
        self.lines = []

    def deed(self, seen):
        word = self.draw.choice(DEEDS)
        one, other = self.draw.choice(seen), self.draw.choice(seen)
        return f"{word} {one} {JOINTS[word]} {other}" if word in JOINTS else f"{word} {one}"

    def declare(self, many):
        mine = [self.names.pop() for _ in range(many)]
        if mine:
            self.lines.append(" ".join(["local", *mine]))
        return mine

    def fill(self, seen, depth, size):
        """The lines of a block: so many, without those that open and close blocks."""
        while size > 0:
            if size > 1 and depth < self.deepest and self.draw.random() < self.often:
                inner = self.draw.randint(0, size)
                size -= inner
                self.open_block(seen, depth, inner)
            else:
                self.lines.append(self.deed(seen))
            size -= 1

    def open_block(self, seen, depth, size):
        word = self.draw.choice(["block", "loop", "maybe", "same"])
        named = [self.draw.choice(seen) for _ in range(2)] if word == "same" else []
        self.lines.append(" ".join([word, *named]))
        if word in ("maybe", "same") and self.draw.random() < 0.7:
            self.fill(seen + self.declare(self.draw.randint(0, min(1, len(self.names)))), depth + 1, size // 2)
            self.lines.append("else")
            size -= size // 2
        self.fill(seen + self.declare(self.draw.randint(0, len(self.names))), depth + 1, size)
        self.lines.append("end")


def made_program(seed, many_lines, many_cells):
    """The text of a right program of about so many lines and at most so many cells."""
    maker = Maker(seed, many_cells)
    seen = maker.declare(maker.draw.randint(2, many_cells))
    for name in seen:
        if maker.draw.random() < 0.7:
            maker.lines.append(f"point {name} to {maker.draw.choice(seen)}")
    maker.fill(seen, 0, many_lines)
    return "\n".join(maker.lines)


class Nester(Maker):
    """Makes up a program with many blocks, in which most cells are declared, and that mostly names the inner ones."""

    def deed(self, seen):
        word = self.draw.choice(["input", "input", "use", "use", "use", "point", "copy"])
        one, other = self.draw.choice(seen[-2:]), self.draw.choice(seen)
        return f"{word} {one} {JOINTS[word]} {other}" if word in JOINTS else f"{word} {one}"

    def declare(self, many):
        mine = super().declare(min(many, 2))
        for name in mine:
            if self.draw.random() < 0.6:
                # What a cell of a loop's inside holds is read in the next round.
                self.lines.extend([f"use {name}", f"point {name} to {name}"])
        return mine


def made_nest(seed, many_lines, many_cells):
    """The text of a right program with blocks within a loop, one within another."""
    maker = Nester(seed, many_cells, 4, 0.6)
    maker.lines.append("loop")
    maker.fill(maker.declare(1), 0, many_lines)
    maker.lines.append("end")
    return "\n".join(maker.lines)


def is_small(program, most):
    """Whether a program has at most so many cases."""
    cases = Cases(program)
    number = 0
    while number < len(cases.met) and number <= most:
        cases.go_on(number)
        number += 1
    return number == len(cases.met)


def small_program(text, most):
    """The program of a text; None if it has too many lines, or more than so many cases."""
    if text.count("\n") >= 40:
        return None
    program = Program(text)
    return program if is_small(program, most) else None
