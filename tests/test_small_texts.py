"""All small texts over a few rows, held against what the forms of a text let stand."""

import unittest

from turnguard.errors import NoProgram
from turnguard.texts import read, write

# So many rows behind the first are tried; a body that begins with them can end within one more than twice as many.
TRIED = 5
MADE = 2 * TRIED + 1
ROWS = ("in", "in a", "x = 1", "if a {", "while a {", "}", "} else {", "back x", "?")


def bodies(most):
    """For each number of rows up to most, all bodies of so many: pairs of their rows and their statements."""
    every = [[((), ())]]
    ones = [[]]
    for size in range(1, most + 1):
        ones.append(one_statement(size, every))
        every.append([(rows + behind, (statement,) + rest)
                      for first in range(1, size + 1)
                      for rows, statement in ones[first]
                      for behind, rest in every[size - first]])
    return every


def one_statement(size, every):
    if size == 1:
        return [(("x = 1",), ("num", "x", 1))]
    found = []
    for rows, inner in every[size - 2]:
        found.append((("while a {",) + rows + ("}",), ("while", "a", inner)))
        found.append((("if a {",) + rows + ("}",), ("if", "a", inner, ())))
    for size_no in range(1, size - 2):
        for rows, yes in every[size - 3 - size_no]:
            for others, no in every[size_no]:
                found.append((("if a {",) + rows + ("} else {",) + others + ("}",), ("if", "a", yes, no)))
    return found


class SmallTexts(unittest.TestCase):
    @classmethod
    def setUpClass(cls):
        cls.programs = {}
        for size in bodies(MADE):
            for rows, body in size:
                cls.programs[("in",) + rows + ("back x",)] = ((), body, "x")
        cls.beginnings = set()
        for rows in cls.programs:
            for k in range(len(rows) + 1):
                cls.beginnings.add(rows[:k])

    def test_each_is_read_and_written(self):
        self.assertGreater(len(self.programs), 10000)
        for rows, program in self.programs.items():
            text = "\n".join(rows)
            self.assertEqual(read(text), program)
            self.assertEqual(write(program), text)

    def row_refused(self, rows):
        try:
            read("\n".join(rows))
        except NoProgram as refusal:
            return refusal.row
        return None

    def test_the_first_row_that_can_not_stand_there(self):
        tried = 0
        begun = [("in",)]
        while begun:
            rows = begun.pop()
            if rows not in self.programs:
                self.assertEqual(self.row_refused(rows), len(rows), rows)
            for row in ROWS:
                longer = rows + (row,)
                tried += 1
                if longer not in self.beginnings:
                    for behind in ((), ("back x",), ("}", "back x"), ("?", "in")):
                        self.assertEqual(self.row_refused(longer + behind), len(rows), longer + behind)
                elif len(longer) <= TRIED:
                    begun.append(longer)
        self.assertGreater(tried, 1000)


if __name__ == "__main__":
    unittest.main()
