"""The rows of the document."""

import doctest
import unittest

ROWS = """
>>> from slowshelves.calm import calm_paper, calm_rooms
>>> from slowshelves.crossings import grid_room
>>> star = (4, ((0, 1), (0, 2), (0, 3)))
>>> calm_rooms(star), calm_paper(star, 3)[0], grid_room(3, 50, 3)
((1, 2, 4, 5), 'fork', 3)

>>> from slowshelves.rules import rule_run, rule_table, slip_walk
>>> rule_run(2, "first in", [0, 1, 0, 2])
((1, -1, (0,)), (1, -1, (0, 1)), (0, -1, (0, 1)), (1, 0, (1, 2)))
>>> slip_walk((4, [(0, 1), (1, 2), (2, 3)]), 2, "first in")
(1, 0, 1, 2, 1)
>>> rule_table((4, [(0, 1), (0, 2), (0, 3)]), 3, "last used")[0]
2

>>> from slowshelves.calm import calm_paper, calm_rooms
>>> from slowshelves.endless import Walker
>>> from slowshelves.crossings import grid_room
>>> star = (4, ((0, 1), (0, 2), (0, 3)))
>>> calm_rooms(star), calm_paper(star, 3)[0], grid_room(3, 50, 3)
((1, 2, 4, 5), 'fork', 3)
>>> walker = Walker(star, 3)
>>> for turn in range(50):
...     block = walker.next_block()
...     full = block not in walker.memory and len(walker.memory) == 3
...     walker.touched(walker.memory[0] if full else None)
>>> walker.gained >= (50 - 4) // 5
True

>>> from slowshelves.ahead import ahead_needed, two_room_rounds
>>> from slowshelves.loss import greatest_loss, walk_loss
>>> line, triangle = (3, ((0, 1), (1, 2))), (3, ((0, 1), (0, 2), (1, 2)))
>>> walk_loss(line, 2, 2, "first in", (0, 1, 2, 1, 0, 1)), greatest_loss(line, 2, 2, "last used")
(1, 0)
>>> ahead_needed(triangle, 2), ahead_needed((4, ((0, 1), (0, 2), (0, 3))), 3)
(1, None)
>>> two_room_rounds((0, 1, 2, 1, 0, 1))
((1, 3), (3, 5))

>>> from slowshelves.house import House
>>> from slowshelves.live import Live
>>> live = Live(House((4, [("ring", [0, 1, 2, 3])]), 2, [0, 1, 2, 3], 2, "last used"))
>>> for cell in (0, 1, 2, 3, 0):
...     live.go(cell)
>>> live.moves, live.least
(5, 4)
>>> live.do(("calm",))
>>> live.moves == live.least
True

>>> from slowshelves.desk import Desk
>>> desk = Desk()
>>> [desk.say(line) for line in ("start 5 2 2 last used", "list 0 1 2 3 4", "go 1", "go 2", "go 3", "go 4")][0]
'done'
>>> desk.say("boxes"), desk.say("moves"), desk.say("ask calm"), desk.say("ask share")
('list [0 1] [2 3]* [4]*', '3 3', 'yes', '1 of 3')
"""


class TestDocument(unittest.TestCase):
    def test_rows(self):
        rows = doctest.DocTestParser().get_doctest(ROWS, {}, "rows", None, 0)
        runner = doctest.DocTestRunner()
        runner.run(rows)
        self.assertEqual((0, 33), (runner.failures, runner.tries))


if __name__ == "__main__":
    unittest.main()
