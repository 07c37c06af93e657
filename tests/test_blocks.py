"""Promises 6, 7 and, of 10, folds."""

import unittest
from itertools import combinations, product

from slowshelves.blocks import (
    folded_web, joined_layout, layout_blocks, layout_count, layout_number, layout_web, need_block, need_fold, need_layout,
    need_room, need_rooms, need_web, neighbours, nth_layout, plain_layout, run_layout, web_parts, web_shelf,
)
from slowshelves.errors import (
    InvalidBlock, InvalidFold, InvalidIndex, InvalidLayout, InvalidRoom, InvalidRooms, InvalidSize, InvalidWeb,
)
from slowshelves.shelves import list_shelf, ring_shelf
from tests.support import Case, all_webs, least_moves, parts_of, rows_of, walks_of


class TestWebs(Case):
    def test_links_any_way_and_twice(self):
        self.gives((3, ((0, 1), (1, 2))), need_web, (3, ((2, 1), (1, 0), (0, 1), (1, 2), (1, 0))))
        self.gives((1, ()), need_web, (1, ()))
        self.gives((40, ()), need_web, (40, ()))

    def test_1600_told_links(self):
        told = [(one, other) for one in range(40) for other in range(40) if one != other]
        told += [[39, 0]] * 40
        self.assertEqual(1600, len(told))
        self.gives((40, tuple(combinations(range(40), 2))), need_web, (40, told))
        self.fails(InvalidWeb(1600), need_web, (40, told + [(5, 5)]))

    def test_the_first_wrong_link(self):
        self.fails(InvalidWeb(1), need_web, (2, ((0, 1), (1, 1), "bad")))
        self.fails(InvalidWeb(0), need_web, (1, ((0, 1),)))
        self.fails(InvalidWeb(-1), need_web, (41, ((1, 1),)))

    def test_neighbours_and_parts(self):
        self.gives(((1, 2), (0,), (0,), ()), neighbours, (4, ((2, 0), (1, 0))))
        self.gives(((0, 3), (1,), (2, 4)), web_parts, (5, ((4, 2), (3, 0))))
        for web in all_webs(4):
            self.assertEqual(tuple(tuple(sorted(row)) for row in rows_of(web)), neighbours(web))
            self.assertEqual(tuple(parts_of(web)), web_parts(web))

    def test_single_numbers(self):
        for value in range(1, 6):
            self.gives(value, need_rooms, value)
        for value in range(1, 9):
            self.gives(value, need_room, value)
        for value in range(4):
            self.gives(value, need_block, (4, ()), value)
        self.fails(InvalidRooms(-1), need_rooms, 6)
        self.fails(InvalidRoom(-1), need_room, 9)
        self.fails(InvalidBlock(-1), need_block, (4, ()), 4)
        self.fails(InvalidBlock(-1), need_block, (1, ()), 1)

    def test_web_shelf(self):
        self.gives((3, (("list", (0, 2)), ("list", (1, 2)))), web_shelf, (3, ((2, 1), (0, 2))))
        self.gives((1, ()), web_shelf, (1, ()))
        links = list(combinations(range(40), 2))
        self.assertEqual(200, len(web_shelf((40, links[:200]))[1]))
        self.fails(InvalidSize("links"), web_shelf, (40, links[:201]))
        self.assertEqual(200, len(web_shelf((40, links[:200] + links[:9]))[1]))

    def test_web_shelf_has_its_web(self):
        for web in all_webs(4):
            self.assertEqual(web, layout_web(web_shelf(web), range_of(web[0])))


def range_of(many):
    return tuple(range(many))


class TestLayouts(Case):
    def test_numbered_as_first_come_to(self):
        self.gives((0, 1, 0, 2, 1), plain_layout, (7, 3, 7, 199, 3))
        self.gives((0,), plain_layout, (199,))
        self.gives(range_of(200), plain_layout, range_of(200)[::-1])
        self.fails(InvalidLayout(-1), plain_layout, (0,) * 201)
        self.gives((0,) * 200, plain_layout, (5,) * 200)

    def test_need_layout(self):
        self.gives((0, 1, 0), need_layout, list_shelf(3), 2, (9, 4, 9))
        self.gives((0, 1, 2), need_layout, list_shelf(3), 1, (9, 4, 5))
        self.gives((0,) * 8, need_layout, list_shelf(8), 8, (4,) * 8)
        self.fails(InvalidLayout(8), need_layout, list_shelf(9), 8, (4,) * 9)
        self.fails(InvalidLayout(1), need_layout, list_shelf(3), 1, (9, 9, 200))
        self.fails(InvalidLayout(1), need_layout, list_shelf(3), 1, (9, 200, 9))
        self.fails(InvalidLayout(-1), need_layout, list_shelf(3), 1, (200, 9))
        self.gives(range_of(200), need_layout, (200, ()), 1, range_of(200))

    def test_blocks_of_a_layout(self):
        self.gives(((0, 2), (1, 4), (3,)), layout_blocks, (7, 3, 7, 9, 3))
        self.gives(((0,),), layout_blocks, (3,))

    def test_web_of_a_layout(self):
        self.gives((2, ((0, 1),)), layout_web, ring_shelf(4), (0, 0, 1, 1))
        self.gives((1, ()), layout_web, ring_shelf(4), (5, 5, 5, 5))
        self.gives((3, ((0, 1), (0, 2))), layout_web, list_shelf(4), (1, 0, 1, 2))
        self.gives((2, ()), layout_web, (2, ()), (0, 1))
        self.assertEqual(40, layout_web(list_shelf(200), run_layout(200, 5))[0])
        self.fails(InvalidSize("blocks"), layout_web, list_shelf(41), range_of(41))
        self.fails(InvalidLayout(-1), layout_web, list_shelf(41), range_of(42))

    def test_run_layout(self):
        self.gives((0, 0, 0, 1, 1, 1, 2), run_layout, 7, 3)
        self.gives((0,), run_layout, 1, 8)
        self.gives(range_of(200), run_layout, 200, 1)
        self.gives((0,) * 8 + (1,), run_layout, 9, 8)

    def test_joined(self):
        self.gives((0, 1, 0, 1), joined_layout, (0, 1, 2, 1), 0, 2)
        self.gives((0, 1, 0, 1), joined_layout, (0, 1, 2, 1), 2, 0)
        self.gives((0, 0, 1, 0), joined_layout, (0, 1, 2, 1), 1, 0)
        self.gives((0, 1, 2, 1), joined_layout, (5, 7, 2, 7), 1, 1)
        self.gives((0, 1, 1, 1), joined_layout, (5, 7, 2, 7), 2, 1)
        self.fails(InvalidBlock(0), joined_layout, (5, 7), 5, 7)
        self.fails(InvalidBlock(1), joined_layout, (5, 7), 1, 2)

    def test_joining_is_what_sets_say(self):
        for layout in product(range(4), repeat=4):
            blocks = layout_blocks(layout)
            for one in range(len(blocks)):
                for other in range(len(blocks)):
                    lots = {frozenset(lot) for at, lot in enumerate(blocks) if at not in (one, other)}
                    lots.add(frozenset(blocks[one] + blocks[other]))
                    told = layout_blocks(joined_layout(layout, one, other))
                    self.assertEqual(lots, {frozenset(lot) for lot in told})
                    self.assertEqual(sorted(told), list(told))


class TestNumbers(Case):
    def layouts_of(self, cells, room):
        rows = sorted({plain_layout(row) for row in product(range(cells), repeat=cells)})
        return [row for row in rows if max(row.count(block) for block in row) <= room]

    def test_all_layouts_of_few_cells(self):
        for cells in range(1, 7):
            for room in range(1, 9):
                layouts = self.layouts_of(cells, room)
                self.assertEqual(len(layouts), layout_count(cells, room))
                for number, layout in enumerate(layouts):
                    self.assertEqual(layout, nth_layout(cells, room, number))
                    self.assertEqual(number, layout_number(cells, room, layout))
                self.fails(InvalidIndex(-1), nth_layout, cells, room, len(layouts))

    def test_told(self):
        self.gives(15, layout_count, 4, 8)
        self.gives(10, layout_count, 4, 2)
        self.gives(1, layout_count, 30, 1)
        self.gives((0, 1, 2, 0), nth_layout, 4, 2, 6)
        self.gives(6, layout_number, 4, 2, (9, 5, 7, 9))
        self.gives(0, layout_number, 1, 1, (7,))

    def test_thirty_cells(self):
        for room in (1, 2, 5, 8):
            many = layout_count(30, room)
            for number in sorted({0, many // 7, many // 2, many - 1}):
                layout = nth_layout(30, room, number)
                self.assertEqual(number, layout_number(30, room, layout))
            self.assertEqual(range_of(30), nth_layout(30, room, many - 1))
            self.fails(InvalidIndex(-1), nth_layout, 30, room, many)
        self.assertEqual((0,) * 8 + (1,) * 8 + (2,) * 8 + (3,) * 6, nth_layout(30, 8, 0))
        self.fails(InvalidLayout(8), layout_number, 30, 8, (0,) * 30)
        self.fails(InvalidLayout(-1), layout_number, 30, 8, (0,) * 31)


class TestFolds(Case):
    def test_need_fold(self):
        self.gives((1, 0, 1), need_fold, (3, ()), (1, 0, 1))
        self.gives((0,), need_fold, (1, ()), (0,))
        self.gives((2, 1, 0), need_fold, (3, ()), (2, 1, 0))
        self.fails(InvalidFold(-1), need_fold, (3, ()), (1, 1, 1))
        self.fails(InvalidFold(-1), need_fold, (3, ()), (0, 2, 0))
        self.fails(InvalidFold(1), need_fold, (3, ()), (2, 3, 2))
        self.fails(InvalidFold(-1), need_fold, (3, ()), (2, 3))

    def test_all_folds_of_few_blocks(self):
        for many in range(1, 5):
            for fold in product(range(many), repeat=many):
                if set(fold) == set(range(max(fold) + 1)):
                    self.assertEqual(fold, need_fold((many, ()), fold))
                else:
                    self.fails(InvalidFold(-1), need_fold, (many, ()), fold)

    def test_folded_web(self):
        self.gives((2, ((0, 1),)), folded_web, (3, ((0, 1), (1, 2))), (0, 1, 0))
        self.gives((1, ()), folded_web, (3, ((0, 1), (1, 2))), (0, 0, 0))
        self.gives((2, ()), folded_web, (3, ((0, 1),)), (1, 1, 0))
        self.gives((3, ((0, 2), (1, 2))), folded_web, (3, ((0, 1), (1, 2))), (0, 2, 1))
        told = folded_web((40, tuple(combinations(range(40), 2))), tuple(block // 2 for block in range(40)))
        self.assertEqual((20, tuple(combinations(range(20), 2))), told)

    def test_a_layout_is_a_fold_of_the_web_of_its_cells(self):
        for web in all_webs(4):
            for layout in sorted({plain_layout(row) for row in product(range(web[0]), repeat=web[0])}):
                self.assertEqual(layout_web(web_shelf(web), layout), folded_web(web, layout))

    def test_joining_blocks_never_costs_hindsight_a_move(self):
        whole = (4, tuple(combinations(range(4), 2)))
        folds = sorted({plain_layout(row) for row in product(range(4), repeat=4)})
        for walk in walks_of(whole, 6):
            least = [least_moves(walk, rooms) for rooms in (1, 2, 3)]
            for fold in folds:
                new = [fold[block] for block in walk]
                new = [block for at, block in enumerate(new) if at == 0 or new[at - 1] != block]
                for rooms in (1, 2, 3):
                    self.assertLessEqual(least_moves(new, rooms), least[rooms - 1])


if __name__ == "__main__":
    unittest.main()
