"""Promises 37 and 38."""

import unittest
from fractions import Fraction
from itertools import combinations, permutations

from slowshelves.blocks import run_layout, web_shelf
from slowshelves.errors import InvalidLengths, InvalidRoom, InvalidRooms, InvalidSize, Refused
from slowshelves.lists import (
    best_runs, best_stretch, folded_layout, folded_share, length_layout, list_share, swing_way, tree_share,
)
from slowshelves.shelves import linked_cells, list_shelf, ring_shelf
from slowshelves.tracks import need_way, track_walk
from tests.support import Case, last_used_moves, least_moves, parts_of, rows_of, unlike_webs


def compositions(cells, room):
    if cells == 0:
        return [()]
    return [(length,) + row for length in range(1, min(room, cells) + 1) for row in compositions(cells - length, room)]


def stretches(lengths, rooms):
    """All (share, stretch) of more than rooms runs, as the document tells them."""
    found = []
    for first in range(len(lengths)):
        for last in range(first, len(lengths)):
            runs = last - first + 1
            if runs > rooms:
                found.append((Fraction(runs - rooms, 1 + sum(lengths[first + 1:last])), (first, last)))
    return found


def share_by_words(lengths, rooms):
    return max([share for share, _ in stretches(lengths, rooms)], default=Fraction(0))


def forced_share(shelf, layout, rooms):
    """The least share, from the rows of moves that can be forced in 0, 1, .. steps.

    Once a row is an earlier one with one number added to all, it goes on so.
    """
    linked = linked_cells(shelf)
    blocks = sorted(set(layout))
    lots = [lot for many in range(1, rooms + 1) for lot in combinations(blocks, many)]
    states = [(lot, cell) for lot in lots for cell in range(shelf[0]) if layout[cell] in lot]
    number = {state: at for at, state in enumerate(states)}
    steps = [[answers_of(layout, rooms, lot, other, number) for other in linked[cell]] for lot, cell in states]
    row = [0] * len(states)
    seen = {}
    turn = 0
    while tuple(worth - row[0] for worth in row) not in seen:
        seen[tuple(worth - row[0] for worth in row)] = (turn, row[0])
        row = [max(price + min(row[at] for at in answers) for price, answers in told) for told in steps]
        turn += 1
    elder_turn, elder = seen[tuple(worth - row[0] for worth in row)]
    return Fraction(row[0] - elder, turn - elder_turn)


def answers_of(layout, rooms, lot, cell, number):
    """The price of a step to the cell, and the numbers of the states behind it."""
    block = layout[cell]
    if block in lot:
        return 0, [number[(lot, cell)]]
    if len(lot) < rooms:
        return 1, [number[(tuple(sorted(lot + (block,))), cell)]]
    return 1, [number[(tuple(sorted(set(lot) - {out} | {block})), cell)] for out in lot]


class TestRuns(Case):
    def test_layouts(self):
        self.gives((0, 0, 1, 2, 2, 2), length_layout, (2, 1, 3))
        self.gives((0,), length_layout, (1,))
        self.gives(tuple(range(200)), length_layout, (1,) * 200)
        self.gives(run_layout(200, 8), length_layout, (8,) * 25)
        self.fails(InvalidLengths(200), length_layout, (1,) * 201)
        self.fails(InvalidLengths(25), length_layout, (8,) * 25 + (9,))

    def test_told_shares(self):
        self.gives((1, 3), list_share, (2, 2, 1), 2)
        self.gives((0, 1), list_share, (2, 2), 2)
        self.gives((0, 1), list_share, (1,), 1)
        self.gives((0, 1), list_share, (1,), 5)
        self.gives((1, 1), list_share, (8, 8), 1)
        self.gives((0, 1), list_share, (1,) * 5, 5)
        self.gives((1, 5), list_share, (1,) * 6, 5)
        self.gives((1, 2), list_share, (1, 1, 1, 1, 8), 3)
        self.gives((195, 199), list_share, (1,) * 200, 5)
        self.gives((4, 37), list_share, (8,) * 25, 5)

    def test_all_rows_of_few_cells(self):
        for cells in range(1, 10):
            for lengths in compositions(cells, 8):
                for rooms in range(1, 6):
                    share = share_by_words(lengths, rooms)
                    self.assertEqual((share.numerator, share.denominator), list_share(lengths, rooms))
                    best = min([told for worth, told in stretches(lengths, rooms) if worth == share], default=None)
                    self.assertEqual(best, best_stretch(lengths, rooms), (lengths, rooms))

    def test_stretches(self):
        self.gives((0, 2), best_stretch, (2, 2, 1), 2)
        self.gives(None, best_stretch, (2, 2), 2)
        self.gives((0, 1), best_stretch, (3, 1, 1, 1), 1)
        self.gives((0, 3), best_stretch, (3, 2, 1, 2), 2)
        self.gives((1, 3), best_stretch, (3, 3, 1, 2), 2)
        self.gives((1, 4), best_stretch, (1, 4, 1, 1, 1), 2)
        self.gives((0, 3), best_stretch, (3, 2, 1, 2), 3)

    def test_it_is_the_share_that_can_be_forced(self):
        for cells in range(2, 8):
            for lengths in compositions(cells, 8):
                for rooms in (1, 2, 3):
                    if len(lengths) > 6 and rooms == 3:
                        continue
                    share = Fraction(*list_share(lengths, rooms))
                    self.assertEqual(forced_share(list_shelf(cells), length_layout(lengths), rooms), share, (lengths, rooms))

    def test_swings(self):
        self.gives((1, 2, 3, 4, 3, 2, 1), swing_way, (2, 2, 1), 2)
        self.gives((2, 3, 2), swing_way, (3, 1, 1, 1), 1)
        self.fails(Refused(-1), swing_way, (2, 2), 2)
        self.fails(Refused(-1), swing_way, (1,), 1)
        self.fails(InvalidRooms(-1), swing_way, (1,), 0)
        way = self.tell(swing_way, (1,) * 200, 5)
        self.assertEqual(tuple(range(200)) + tuple(range(198, -1, -1)), way)

    def test_moves_of_swings(self):
        for cells in range(2, 9):
            for lengths in compositions(cells, 4):
                for rooms in (1, 2, 3):
                    stretch = best_stretch(lengths, rooms)
                    if stretch is None:
                        self.fails(Refused(-1), swing_way, lengths, rooms)
                        continue
                    way = swing_way(lengths, rooms)
                    self.assertEqual(way, need_way(list_shelf(cells), way))
                    first, last = stretch
                    self.assertEqual((sum(lengths[:first + 1]) - 1,) * 2, (way[0], way[-1]))
                    self.assertEqual(sum(lengths[:last]), max(way))
                    per_way = 2 * (last - first + 1 - rooms)
                    walks = [track_walk(length_layout(lengths), way + way[1:] * more) for more in range(4)]
                    last_used = [last_used_moves(walk, rooms) for walk in walks]
                    least = [least_moves(walk, rooms) for walk in walks]
                    for ahead, behind in zip(last_used, last_used[1:]):
                        self.assertEqual(per_way, behind - ahead)
                    for ahead, behind in zip(least, least[1:]):
                        self.assertGreaterEqual(behind - ahead, per_way)


class TestBestRuns(Case):
    def test_told(self):
        self.gives((0, 1, ((1,),)), best_runs, 1, 8, 1)
        self.gives((0, 1, ((8,),)), best_runs, 8, 8, 1)
        self.gives((1, 1, ((1, 8), (2, 7), (3, 6), (4, 5), (5, 4), (6, 3), (7, 2), (8, 1))), best_runs, 9, 8, 1)
        self.gives((1, 4, ((1, 3, 3), (2, 3, 2), (3, 3, 1))), best_runs, 7, 3, 2)
        self.gives((0, 1, ((1, 3, 3), (2, 2, 3), (2, 3, 2), (3, 1, 3), (3, 2, 2), (3, 3, 1))), best_runs, 7, 3, 3)
        self.gives((35, 39, ((1,) * 40,)), best_runs, 40, 1, 5)
        self.gives((2, 25, ((8,) * 5,)), best_runs, 40, 8, 3)
        self.fails(InvalidSize("cells"), best_runs, 41, 0, 0)
        self.fails(InvalidRoom(-1), best_runs, 40, 0, 0)
        self.fails(InvalidRooms(-1), best_runs, 40, 8, 0)

    def test_all_rows_of_few_cells(self):
        for cells in range(1, 11):
            for room in (1, 2, 3, 4, 8):
                rows = compositions(cells, room)
                for rooms in range(1, 6):
                    least = min(share_by_words(row, rooms) for row in rows)
                    having = [row for row in rows if share_by_words(row, rooms) == least]
                    runs = min(len(row) for row in having)
                    kept = tuple(sorted(row for row in having if len(row) == runs))
                    self.gives((least.numerator, least.denominator, kept), best_runs, cells, room, rooms)
                    fewest = -(-cells // room)
                    self.assertEqual(fewest, runs)
                    if rooms > 1 and fewest > rooms:
                        full = [row for row in rows if len(row) == fewest and set(row[1:-1]) <= {room}]
                        self.assertEqual(sorted(full), list(kept))
                        self.assertEqual([], [row for row in having if len(row) > fewest])

    def test_up_to_forty_cells(self):
        for cells in (31, 33, 37, 40):
            for room in range(1, 9):
                for rooms in (1, 2, 5):
                    moves, steps, rows = best_runs(cells, room, rooms)
                    self.assertEqual(sorted(set(rows)), list(rows))
                    for row in rows:
                        self.assertEqual((moves, steps), list_share(row, rooms))
                        self.assertEqual((cells, -(-cells // room)), (sum(row), len(row)))
                        self.assertLessEqual(max(row), room)


class TestTrees(Case):
    def test_told(self):
        self.gives((0, 1), lambda web: tree_share(web)[:2], (2, ((0, 1),)))
        self.gives((1, 2), lambda web: tree_share(web)[:2], (4, ((0, 1), (0, 2), (0, 3))))
        self.gives((38, 39), lambda web: tree_share(web)[:2], (40, tuple((at, at + 1) for at in range(39))))
        self.gives((2, 3), lambda web: tree_share(web)[:2], (5, ((0, 1), (1, 2), (2, 3), (1, 4))))

    def test_refused(self):
        for web in ((1, ()), (2, ()), (3, ((0, 1),)), (3, ((0, 1), (0, 2), (1, 2))), (4, ((0, 1), (0, 2), (1, 2))), (40, ())):
            self.fails(Refused(-1), tree_share, web)

    def test_all_small_webs(self):
        for web in [*unlike_webs(2), *unlike_webs(3), *unlike_webs(4), *unlike_webs(5), *unlike_webs(6)]:
            many, links = web
            if len(parts_of(web)) > 1 or len(links) != many - 1:
                self.fails(Refused(-1), tree_share, web)
                continue
            rows = rows_of(web)
            ways = [row for length in range(1, many + 1) for row in permutations(range(many), length)
                    if all(b in rows[a] for a, b in zip(row, row[1:]))]
            longest = max(len(row) for row in ways)
            moves, steps, way = self.tell(tree_share, web)
            self.assertIn(way, ways)
            self.assertEqual(longest, len(way))
            share = Fraction(longest - 2, longest - 1)
            self.assertEqual((share.numerator, share.denominator), (moves, steps))
            self.assertEqual(share, forced_share(web_shelf(web), tuple(range(many)), 2))


class TestFolded(Case):
    def test_layouts(self):
        self.gives((0, 1, 0), folded_layout, 3, 2)
        self.gives((0, 1, 1, 0), folded_layout, 4, 2)
        self.gives((0, 0, 1, 0), folded_layout, 4, 3)
        self.gives((0, 0, 1, 2, 1, 1, 0), folded_layout, 7, 3)
        self.gives((0,) * 5, folded_layout, 5, 8)
        for cells in (3, 4, 9, 50, 199, 200):
            for room in range(2, 9):
                layout = folded_layout(cells, room)
                order = [cell for pair in zip(range(cells), range(cells - 1, -1, -1)) for cell in pair][:cells]
                self.assertEqual(sorted(order), list(range(cells)))
                groups = sorted(tuple(sorted(order[at:at + room])) for at in range(0, cells, room))
                told = [tuple(cell for cell in range(cells) if layout[cell] == block) for block in range(max(layout) + 1)]
                self.assertEqual(groups, told)

    def test_errors(self):
        for function, more in ((folded_layout, ()), (folded_share, ("bad",))):
            self.fails(InvalidSize("room"), function, 5, 1, *more)
            self.fails(InvalidSize("cells"), function, 2, 1, *more)
            self.fails(InvalidRoom(-1), function, 5, 0, *more)
        self.fails(InvalidRooms(-1), folded_share, 5, 2, 0)

    def test_told_shares(self):
        self.gives((0, 1), folded_share, 4, 2, 2)
        self.gives((1, 1), folded_share, 4, 2, 1)
        self.gives((1, 2), folded_share, 6, 2, 2)
        self.gives((1, 2), folded_share, 5, 2, 2)
        self.gives((95, 99), folded_share, 200, 2, 5)
        self.gives((20, 93), folded_share, 200, 8, 5)

    def test_it_is_the_share_that_can_be_forced(self):
        for cells in range(3, 10):
            for room in range(2, 5):
                for rooms in (1, 2, 3):
                    share = Fraction(*self.tell(folded_share, cells, room, rooms))
                    forced = forced_share(ring_shelf(cells), folded_layout(cells, room), rooms)
                    self.assertEqual(forced, share, (cells, room, rooms))


if __name__ == "__main__":
    unittest.main()
