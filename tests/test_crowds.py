"""Promise 25."""

import random
import unittest
from itertools import product

from slowshelves.crowds import crowd_holds, crowd_order, crowd_paper, open_run, order_touches
from slowshelves.errors import InvalidOrder, InvalidRooms, InvalidRows, InvalidSize, Refused
from tests.support import ANY, Case, bools_within, least_moves, lists_within

SMALL = [tuple(row) for many in (1, 2, 3) for row in product(range(3), repeat=many)]
TOO_MANY = ((0, 1) * 10,) * 2 + ((5,) * 22,)


def all_orders(rows):
    def further(done):
        if all(many == len(row) for many, row in zip(done, rows)):
            yield ()
        for number, row in enumerate(rows):
            if done[number] < len(row):
                for rest in further(done[:number] + (done[number] + 1,) + done[number + 1:]):
                    yield (number,) + rest
    return further((0,) * len(rows))


def touches_by_eye(rows, order):
    left = [list(row) for row in rows]
    blocks = [left[number].pop(0) for number in order]
    return tuple(block for at, block in enumerate(blocks) if at == 0 or block != blocks[at - 1])


def crowd_by_eye(rows, standing, number):
    done = {block for row, many in zip(rows, standing) for block in row[:many]}
    left = {block for row, many in zip(rows, standing) for block in row[many:]}
    return done & left | {rows[number][standing[number] - 1]}


def crowds_by_eye(rows):
    for standing in product(*[range(len(row) + 1) for row in rows]):
        for number, done in enumerate(standing):
            if done:
                yield len(crowd_by_eye(rows, standing, number)), standing, number


def some_rows():
    yield from product(SMALL[::4], SMALL[::3])
    luck = random.Random(2)
    for _ in range(60):
        yield tuple(tuple(luck.randrange(5) for _ in range(luck.randint(1, 4))) for _ in range(luck.randint(1, 3)))


class TestCrowds(Case):
    def test_touches_of_all_orders(self):
        for rows in some_rows():
            for order in list(all_orders(rows))[:40]:
                self.assertEqual(touches_by_eye(rows, order), order_touches(rows, order))
        self.gives((0, 1, 0), order_touches, ((0, 0), (1,), (0,)), (0, 0, 1, 2))
        self.gives((7,), order_touches, ((7, 7), (7,)), (1, 0, 0))

    def test_papers_by_eye(self):
        for rows in some_rows():
            crowds = list(crowds_by_eye(rows))
            most = max(crowds)[0]
            paper = crowd_paper(rows)
            self.assertEqual(most, paper[0])
            self.assertIn(paper, crowds)
            for crowd in crowds:
                self.assertIs(crowd[0] == most, crowd_holds(rows, crowd))
                self.assertIs(False, crowd_holds(rows, (crowd[0] + 1,) + crowd[1:]))

    def test_enough_rooms_move_each_block_once_on_all_orders(self):
        for rows in some_rows():
            many = crowd_paper(rows)[0]
            blocks = {block for row in rows for block in row}
            for order in list(all_orders(rows))[:60]:
                touches = touches_by_eye(rows, order)
                self.assertEqual(len(blocks), least_moves(touches, many))
                if many <= 5:
                    for rooms in range(many, 6):
                        self.run_by_eye(rows, rooms, order, touches)

    def run_by_eye(self, rows, rooms, order, touches):
        outs = open_run(rows, rooms, order)
        self.assertEqual(len(touches), len(outs))
        memory, moved = set(), set()
        for at, (block, out) in enumerate(zip(touches, outs)):
            if block in memory:
                self.assertEqual(-1, out)
                continue
            self.assertNotIn(block, moved)
            moved.add(block)
            wanted = -1
            if len(memory) == rooms:
                wanted = min(old for old in memory if old not in touches[at:])
            self.assertEqual(wanted, out)
            memory = memory - {out} | {block}

    def test_with_fewer_some_order_moves_one_twice(self):
        for rows in some_rows():
            many = crowd_paper(rows)[0]
            blocks = {block for row in rows for block in row}
            for rooms in range(1, 6):
                order = crowd_order(rows, rooms)
                if rooms >= many:
                    self.assertIsNone(order)
                    continue
                self.assertIn(order, all_orders(rows))
                self.assertGreater(least_moves(touches_by_eye(rows, order), rooms), len(blocks))
                self.fails(Refused(many), open_run, rows, rooms, order)

    def test_told(self):
        self.gives((-1, -1, 0, -1), open_run, ((0, 1, 2), (1,)), 2, (0, 0, 0, 1))
        self.gives((-1, -1, -1, -1), open_run, ((0, 1, 2), (1,)), 3, (0, 0, 0, 1))
        self.gives((-1, 0), open_run, ((0, 0, 1),), 1, (0, 0, 0))
        self.gives(None, crowd_order, ((0, 1, 2), (1,)), 2)
        self.gives((0, 0, 0, 0), crowd_order, ((0, 1, 0, 1),), 1)
        self.fails(Refused(2), open_run, ((0, 1, 0),), 1, (0, 0, 0))
        self.holds(crowd_holds, ((0, 1, 2), (1,)), (2, (3, 0), 0))
        self.fails_to_hold(crowd_holds, ((0, 1, 2), (1,)), (2, (2, 0), 0))
        self.fails_to_hold(crowd_holds, ((0, 1, 2), (1,)), (1, (2, 0), 0))

    def test_limits(self):
        long = (tuple(range(40)) + tuple(range(20)),) * 2
        paper = self.tell(crowd_paper, long)
        self.assertEqual(40, paper[0])
        self.holds(crowd_holds, long, paper)
        self.fails(Refused(40), open_run, long, 5, (0,) * 60 + (1,) * 60)
        rows = ((0,) * 60, (1,) * 60, (2,))
        self.assertEqual(3, self.tell(crowd_paper, rows)[0])
        self.gives((-1, -1, -1), open_run, rows, 5, (0,) * 60 + (1,) * 60 + (2,))
        self.assertEqual(121, len(crowd_order(rows, 1)))
        self.fails(InvalidSize("standings"), crowd_paper, ((0,) * 60, (1,) * 60, (2,), (3, 3)))
        self.gives(None, lambda rows: crowd_order(rows, 5), ((0,) * 9, (1,) * 9, (2,) * 9, (3,) * 9))
        self.fails(InvalidSize("standings"), crowd_paper, ((0,) * 9, (1,) * 9, (2,) * 9, (3,) * 10))

    def test_order_of_errors(self):
        order = (0,) * 20 + (1,) * 20 + (2,) * 22
        for function, more in ((crowd_paper, ()), (crowd_holds, (None,)), (open_run, (3, order)), (crowd_order, (3,))):
            self.fails(InvalidSize("standings"), function, TOO_MANY, *more)
            self.fails(InvalidRows(2), function, TOO_MANY[:2] + ((),), *more)
        self.fails(InvalidRooms(-1), open_run, TOO_MANY, 6, ())
        self.fails(InvalidRooms(-1), crowd_order, TOO_MANY, 6)
        self.fails(InvalidOrder(61), open_run, TOO_MANY, 1, order[:-1])
        self.fails(InvalidOrder(62), open_run, TOO_MANY, 1, order + (2,))
        self.assertEqual(3, len(order_touches(TOO_MANY, order)) - 38)
        self.fails(InvalidOrder(2), order_touches, ((0,), (1,)), (0, 1, 0))
        self.fails(InvalidOrder(1), order_touches, ((0,), (1,)), (0, 0, 1))

    def test_other_values_do_not_hold(self):
        rows = ((0, 1, 0, 2, 0), (1, 1))
        paper = crowd_paper(rows)
        self.refuses_all(crowd_holds, rows)
        for other in lists_within(paper) + bools_within(paper):
            self.fails_to_hold(crowd_holds, rows, other)
        for value in ANY:
            if repr(value) != repr(paper[0]):
                self.fails_to_hold(crowd_holds, rows, (value,) + paper[1:])
            self.fails_to_hold(crowd_holds, rows, (paper[0], value, paper[2]))
            if repr(value) != repr(paper[2]):
                self.fails_to_hold(crowd_holds, rows, paper[:2] + (value,))
            self.fails_to_hold(crowd_holds, rows, paper + (value,))
            self.fails_to_hold(crowd_holds, rows, (paper[0], paper[1] + (value,), paper[2]))
            if type(value) is not int:
                self.fails_to_hold(crowd_holds, rows, (paper[0], (value, paper[1][1]), paper[2]))
        self.fails_to_hold(crowd_holds, ((0,), (1,)), (1, (0, 1), 0))
        self.fails_to_hold(crowd_holds, ((0,), (1,)), (1, (1, 2), 0))
        self.holds(crowd_holds, ((0,), (1,)), (1, (1, 1), 0))


if __name__ == "__main__":
    unittest.main()
