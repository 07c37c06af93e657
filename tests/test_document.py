"""The rows of the document that are answered already."""

import doctest
import unittest

ROWS = """
>>> from slowshelves.calm import calm_paper, calm_rooms
>>> from slowshelves.crossings import grid_room
>>> star = (4, ((0, 1), (0, 2), (0, 3)))
>>> calm_rooms(star), calm_paper(star, 3)[0], grid_room(3, 50, 3)
((1, 2, 4, 5), 'fork', 3)
>>> from slowshelves.rules import rule_run, rule_table, slip_walk
>>> rule_run(2, "first in", [0, 1, 0, 2])
((1, -1, (0,)), (1, -1, (0, 1)), (0, -1, (0, 1)), (1, 0, (1, 2)))
>>> slip_walk((4, [(0, 1), (1, 2), (2, 3)]), 2, "first in")
(1, 0, 1, 2, 1)
>>> rule_table((4, [(0, 1), (0, 2), (0, 3)]), 3, "last used")[0]
2
>>> from slowshelves.endless import Walker
>>> walker = Walker(star, 3)
>>> for turn in range(50):
...     block = walker.next_block()
...     full = block not in walker.memory and len(walker.memory) == 3
...     walker.touched(walker.memory[0] if full else None)
>>> walker.gained >= (50 - 4) // 5
True
>>> from slowshelves.ahead import ahead_needed, two_room_rounds
>>> line, triangle = (3, ((0, 1), (1, 2))), (3, ((0, 1), (0, 2), (1, 2)))
>>> ahead_needed(triangle, 2), ahead_needed((4, ((0, 1), (0, 2), (0, 3))), 3)
(1, None)
>>> two_room_rounds((0, 1, 2, 1, 0, 1))
((1, 3), (3, 5))
"""


class TestDocument(unittest.TestCase):
    def test_rows(self):
        rows = doctest.DocTestParser().get_doctest(ROWS, {}, "rows", None, 0)
        runner = doctest.DocTestRunner()
        runner.run(rows)
        self.assertEqual((0, 16), (runner.failures, runner.tries))


if __name__ == "__main__":
    unittest.main()
