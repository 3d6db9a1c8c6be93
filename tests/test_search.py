"""Points 10 to 12: the answers for all lots of many small programs, against an independent search."""

import unittest
from itertools import combinations
from random import Random

from frameplaces.lots import is_right, right_lots, wrong_lines, wrong_run
from frameplaces.programs import Program
from generated import is_small, made_program
from independent import Replay, Search, lots_of


class AgainstTheSecondReading(unittest.TestCase):
    def check(self, text, exchange):
        program = Program(text)
        search = Search(text, exchange)
        right = [list(lot) for lot in sorted(search.lots) if len(lot) > 1 and search.least[lot] is None]
        self.assertEqual(right_lots(program), right, text)
        draw = Random(len(text))
        for lot in search.lots:
            names = draw.sample(lot, len(lot))
            self.assertEqual(wrong_lines(program, names), sorted(search.lines[lot]), (text, lot))
            self.assertIs(is_right(program, names), search.least[lot] is None, (text, lot))
            choices = wrong_run(program, names)
            if search.least[lot] is None:
                self.assertIsNone(choices, (text, lot))
                self.check_right(program, names, draw)
            else:
                self.assertEqual(Replay(text, choices).wrong_events(lot)[0][0], search.least[lot], (text, lot))
                self.assertNotEqual(program.run(choices), program.run(choices, layout=[names]), (text, lot))
        return len(right)

    def check_right(self, program, lot, draw):
        """Point 10 itself, for some lists of choices."""
        for _ in range(5):
            choices = [draw.randint(-1, 4) for _ in range(draw.randint(0, 30))]
            self.assertEqual(program.run(choices), program.run(choices, layout=[lot]), (program.text, lot, choices))

    def check_made(self, seeds, many_lines, many_cells, most, exchange):
        right = tried = 0
        for seed in seeds:
            text = made_program(seed, many_lines, many_cells)
            if text.count("\n") < 40 and is_small(Program(text), most):
                tried += 1
                right += self.check(text, exchange)
        self.assertGreater(tried, len(seeds) // 2)
        self.assertGreater(right, tried // 2)

    def test_three_cells(self):
        self.check_made(range(0, 400), 9, 3, 150, False)

    def test_four_cells(self):
        self.check_made(range(1000, 1200), 11, 4, 60, False)

    def test_four_cells_and_more_cases(self):
        self.check_made(range(2000, 2150), 16, 4, 600, True)

    def test_five_cells(self):
        self.check_made(range(3000, 3120), 14, 5, 300, True)

    def test_pairs_make_lots(self):
        """A lot of which each two cells are a right lot is right."""
        for seed in range(200):
            program = Program(made_program(seed, 8, 4))
            if is_small(program, 300):
                right = [tuple(lot) for lot in right_lots(program)]
                for lot in lots_of(program.cells):
                    if len(lot) > 1 and all(pair in right for pair in combinations(lot, 2)):
                        self.assertIn(lot, right, program.text)


class MovedCells(unittest.TestCase):
    def test_moving_does_not_change_which_lots_are_right(self):
        tried = 0
        for seed in range(300):
            program = Program(made_program(seed, 9, 4))
            inner = [cell for cell in program.cells if program.opened_at(cell) > 0]
            if inner and is_small(program, 300):
                tried += 1
                for cell in inner:
                    self.assertEqual(right_lots(program.moved(cell)), right_lots(program), program.text)
        self.assertGreater(tried, 50)


if __name__ == "__main__":
    unittest.main()
