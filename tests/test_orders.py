"""Promise 20."""

import random
import unittest
from itertools import combinations, permutations

from slowshelves.errors import InvalidBlock, InvalidLot, InvalidRooms, InvalidSize, InvalidWeb, Refused
from slowshelves.hindsight import least_moves, run_moves
from slowshelves.orders import order_paper, order_steps, told_moves
from tests.support import Case, all_webs, line, parts_of, ring, rows_of, unlike_webs, walks_of, whole

STAR = (4, ((0, 1), (0, 2), (0, 3)))
# Two blocks with three neighbours each.
TREE = (8, ((0, 1), (0, 2), (0, 3), (3, 4), (3, 5), (5, 6), (5, 7)))
APART = (7, ((0, 1), (1, 2), (3, 4), (5, 6)))


def steps_by_eye(web, place, asked):
    """Fewest steps, by going through all (block, asked ones that were touched)."""
    rows, asked = rows_of(web), set(asked)
    standings, steps = {(place, frozenset({place} & asked))}, 0
    while not any(done == asked for _, done in standings):
        standings = {(other, done | ({other} & asked)) for block, done in standings for other in rows[block]}
        steps += 1
    return steps


def moves_by_eye(web, place, asked, rooms):
    """Fewest moves, by going through all (memory, place, asked ones that were touched)."""
    rows, asked = rows_of(web), frozenset(asked)
    least = {(frozenset({place}), place, asked - {place}): 1}
    waiting = {1: list(least)}
    moves = 1
    while True:
        for standing in waiting.get(moves, []):
            memory, block, left = standing
            if least[standing] < moves:
                continue
            if not left:
                return moves
            for other in rows[block]:
                if other in memory:
                    kept = [memory]
                elif len(memory) < rooms:
                    kept = [memory | {other}]
                else:
                    kept = [memory - {out} | {other} for out in memory]
                cost = moves + (other not in memory)
                for behind in kept:
                    key = (behind, other, left - {other})
                    if least.get(key, 99) > cost:
                        least[key] = cost
                        waiting.setdefault(cost, []).append(key)
        moves += 1


def some_asked(web, place):
    part = [part for part in parts_of(web) if place in part][0]
    for many in range(len(part) + 1):
        yield from combinations(part, many)


class TestOrders(Case):
    def test_told(self):
        self.gives(0, order_steps, line(5), 2, ())
        self.gives(0, order_steps, line(5), 2, (2,))
        self.gives(6, order_steps, line(5), 2, (4, 0))
        self.gives(5, order_steps, line(5), 1, (4, 0))
        self.gives(3, order_steps, ring(4), 0, (3, 2, 1))
        self.gives((1, (2,), ((),)), order_paper, line(5), 2, (), 3)
        self.gives((1, (2,), ((),)), order_paper, line(5), 2, [2], 1)
        self.gives((2, (0, 1), ((), (0,))), order_paper, line(3), 0, (1,), 1)
        self.gives(7, told_moves, line(5), 2, (4, 0), 1)
        self.gives(6, told_moves, line(5), 2, (4, 0), 2)
        self.gives(5, told_moves, line(5), 2, (4, 0), 3)
        self.gives(5, told_moves, line(5), 2, (4, 0), 5)
        self.gives(1, told_moves, line(1), 0, (0,), 1)
        self.gives(4, told_moves, ring(4), 0, (1, 2, 3), 1)
        self.gives(6, told_moves, STAR, 0, (1, 2, 3), 1)
        self.gives(4, told_moves, STAR, 0, (1, 2, 3), 2)
        self.gives(None, told_moves, STAR, 0, (1, 2, 3), 3)
        self.gives(None, told_moves, whole(4), 0, (), 1)
        self.gives(2, told_moves, APART, 3, (4,), 3)

    def check(self, web, place, asked, rooms):
        moves, walk, run = paper = order_paper(web, place, asked, rooms)
        rows = rows_of(web)
        self.assertEqual(place, walk[0])
        self.assertTrue(all(other in rows[block] for block, other in zip(walk, walk[1:])))
        self.assertLessEqual(set(asked), set(walk))
        self.assertEqual(moves, len(run_moves(walk, rooms, run)))
        self.assertGreaterEqual(moves, least_moves(walk, rooms))
        self.assertEqual(moves_by_eye(web, place, asked, rooms), moves, (web, place, asked, rooms))
        told = told_moves(web, place, asked, rooms)
        self.assertEqual(self.is_told(web, place, rooms), told is not None)
        if told is not None:
            self.assertEqual(moves, told, (web, place, asked, rooms))
        if len(asked) < 7:
            self.assertEqual(steps_by_eye(web, place, asked), order_steps(web, place, asked))

    def is_told(self, web, place, rooms):
        part = [part for part in parts_of(web) if place in part][0]
        links = [link for link in web[1] if link[0] in part]
        degrees = [sum(block in link for link in links) for block in part]
        if len(links) == len(part) - 1 and (rooms < 3 or max(degrees) < 3):
            return True
        return len(part) > 2 and set(degrees) == {2}

    def test_small_webs(self):
        for web in [*all_webs(3), *unlike_webs(4)]:
            for place in range(web[0]):
                for asked in some_asked(web, place):
                    for rooms in range(1, 6):
                        self.check(web, place, asked, rooms)

    def test_webs_of_five(self):
        for web in unlike_webs(5):
            for place in range(5):
                for asked in list(some_asked(web, place))[::3]:
                    for rooms in (1, 2, 3):
                        self.check(web, place, asked, rooms)

    def test_all_short_walks(self):
        """No walk and run has fewer moves, nor a walk fewer steps."""
        for web in unlike_webs(4):
            walks = [walk for touches in range(1, 8) for walk in walks_of(web, touches)]
            fewest = [{}, {}, {}]
            steps = {}
            for walk in walks:
                steps.setdefault((walk[0], frozenset(walk)), len(walk) - 1)
                for rooms in (1, 2, 3):
                    key = (walk[0], frozenset(walk))
                    moves = least_moves(walk, rooms)
                    fewest[rooms - 1][key] = min(moves, fewest[rooms - 1].get(key, 99))
            for place in range(4):
                for asked in some_asked(web, place):
                    reached = [key for key in steps if key[0] == place and set(asked) <= key[1]]
                    self.assertEqual(min(steps[key] for key in reached), order_steps(web, place, asked))
                    for rooms in (1, 2, 3):
                        told = min(fewest[rooms - 1][key] for key in reached)
                        self.assertEqual(told, order_paper(web, place, asked, rooms)[0])

    def test_lines_rings_and_trees(self):
        luck = random.Random(1)
        for web in (line(8), ring(8), ring(7), TREE, (8, ((0, 1), (1, 2), (1, 3), (1, 4), (4, 5), (5, 6), (5, 7)))):
            for _ in range(25):
                place = luck.randrange(web[0])
                asked = tuple(luck.sample(range(web[0]), luck.randint(0, web[0])))
                for rooms in (1, 2, 3, 4, 5):
                    self.check(web, place, asked, rooms)

    def test_great_webs(self):
        luck = random.Random(2)
        for web in (whole(8), (8, tuple(pair for pair in combinations(range(8), 2) if sum(pair) % 3)), (14, TREE[1] + ((8, 9), (9, 10)))):
            for rooms in (1, 2, 3, 4, 5):
                place = luck.randrange(8)
                asked = tuple(luck.sample(range(8), 8))
                moves, walk, run = self.tell(order_paper, web, place, asked, rooms)
                self.assertEqual(moves, len(run_moves(walk, rooms, run)))
                self.assertLessEqual(set(asked), set(walk))
                self.assertEqual(moves_by_eye(web, place, asked, rooms), moves)
        for many in (14, 40):
            self.gives(2 * many - 2 - (many - 1 - 3), order_steps, line(many), 3, (many - 1, 0))
            self.gives(1 + 3 + many - 4 + 3, told_moves, line(many), 3, (many - 1, 0), 1)
            self.gives(many, told_moves, ring(many), 3, tuple(range(many)), 4)
            self.gives(1 + 2 * 2 + 3, told_moves, ring(many), 0, (2, many - 3), 1)
            self.gives(1 + 2 + 3 + 1, told_moves, ring(many), 0, (2, many - 3), 2)
            self.assertEqual(15, order_steps(whole(40), 0, (1, 2, 3, 4, 5, 6)) + 9)
        great = (14, tuple((block // 2, block) for block in range(1, 14)))
        self.assertEqual(steps_by_eye(great, 0, (13, 8, 5, 11, 1, 10)), order_steps(great, 0, (13, 8, 5, 11, 1, 10)))

    def test_order_matters_not(self):
        for asked in permutations((0, 3, 4)):
            self.gives(order_steps(TREE, 1, (0, 3, 4)), order_steps, TREE, 1, asked)
            self.gives(order_paper(TREE, 1, (0, 3, 4), 2)[0], lambda web, place, asked, rooms: order_paper(web, place, asked, rooms)[0],
                       TREE, 1, asked, 2)

    def test_errors_in_order(self):
        for function, more in ((order_steps, ()), (order_paper, (0,)), (told_moves, (True,))):
            self.fails(InvalidWeb(-1), function, (0, ()), 9, 9, *more)
            self.fails(InvalidBlock(-1), function, APART, 7, 9, *more)
            self.fails(InvalidBlock(-1), function, APART, True, 9, *more)
            self.fails(InvalidLot(-1), function, APART, 6, 9, *more)
            self.fails(InvalidLot(1), function, APART, 6, (0, 0, 9), *more)
            self.fails(InvalidLot(0), function, APART, 6, (7, 0, 9), *more)
            self.fails(Refused(0), function, APART, 6, (4, 0, 1), *more)
            self.fails(Refused(3), function, APART, 0, (4, 3, 1), *more)
        for function in (order_paper, told_moves):
            for wrong in (0, 6, True, None, (2, 2), [1], "2"):
                self.fails(InvalidRooms(-1), function, APART, 0, (1,), wrong)
                self.fails(InvalidRooms(-1), function, line(10), 0, (1,), wrong)
        self.fails(InvalidSize("blocks"), order_paper, line(9), 0, (), 1)
        self.fails(InvalidSize("blocks"), order_paper, line(10), 0, tuple(range(10)), 1)
        self.fails(InvalidSize("asked"), order_steps, line(10), 0, tuple(range(7)))
        self.fails(Refused(1), order_steps, (10, ()), 0, tuple(range(7)))
        self.assertEqual(1, order_paper((14, line(8)[1]), 0, (), 1)[0])
        self.assertEqual(8, order_paper((14, line(8)[1]), 0, tuple(range(8)), 1)[0])


if __name__ == "__main__":
    unittest.main()
