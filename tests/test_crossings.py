"""Promise 33, and its row of the document."""

import unittest

from slowshelves.blocks import plain_layout, run_layout
from slowshelves.crossings import (
    arms_paper, arms_room, arms_shelf, cross_holds, grid_paper, grid_room, grid_shelf,
)
from slowshelves.errors import InvalidRoom, InvalidSize
from slowshelves.shelves import cell_parts, list_shelf, need_shelf, shelf_links
from tests.support import ANY, Case, bools_within, calm_by_words, lists_within, parts_of


def layouts_in(cells, room, layout=()):
    """All layouts of so many cells with at most room in a block."""
    if len(layout) == cells:
        yield layout
        return
    for block in range(max(layout, default=-1) + 2):
        if layout.count(block) < room:
            yield from layouts_in(cells, room, layout + (block,))


def is_calm_layout(links, layout, rooms):
    blocks = sorted({tuple(sorted((layout[a], layout[b]))) for a, b in links if layout[a] != layout[b]})
    return calm_by_words((max(layout) + 1, tuple(blocks)), rooms)


def can_be_laid(shelf, room, rooms):
    links = shelf_links(shelf)
    return any(is_calm_layout(links, layout, rooms) for layout in layouts_in(shelf[0], room))


class PaperCase(Case):
    def paper_holds(self, shelf, room, rooms, paper):
        """What the document says of the papers of laid shelves."""
        cells = shelf[0]
        if paper[0] == "laid":
            _, layout = paper
            self.assertEqual(cells, len(layout))
            self.assertEqual(plain_layout(layout), layout)
            self.assertLessEqual(max(layout.count(block) for block in layout), room)
            self.assertTrue(is_calm_layout(shelf_links(shelf), layout, rooms), (shelf, room, rooms, paper))
            return
        self.assertEqual(1, len(cell_parts(shelf)))
        self.assertGreater(cells, rooms * room)
        if paper[0] == "arms":
            self.assertGreater(rooms, 2)
            links = tuple(link for link in shelf_links(shelf) if paper[1] not in link)
            pieces = sorted(len(part) for part in parts_of((cells, links)) if part != (paper[1],))
            self.assertGreater(len(pieces), 2 * room)
            self.assertGreaterEqual(sum(pieces[:len(pieces) - 2 * room]), room)
            return
        self.assertEqual("cross", paper[0])
        self.assertGreater(rooms, 1)
        self.holds(cross_holds, shelf, room, paper[1:])


class TestCross(Case):
    GRID = grid_shelf(3, 3)
    CROSS = (((0, 1, 2), (3, 4, 5), (6, 7, 8)), ((0, 3, 6), (1, 4, 7), (2, 5, 8)))

    def test_told(self):
        self.holds(cross_holds, self.GRID, 1, self.CROSS)
        self.holds(cross_holds, self.GRID, 2, self.CROSS)
        self.holds(cross_holds, self.GRID, 2, self.CROSS[::-1])
        self.fails_to_hold(cross_holds, self.GRID, 3, self.CROSS)
        self.fails_to_hold(cross_holds, self.GRID, 8, self.CROSS)
        rows, columns = self.CROSS
        self.holds(cross_holds, self.GRID, 1, (rows[:2], columns[1:]))
        self.holds(cross_holds, self.GRID, 2, (rows[::-1], columns))
        self.fails_to_hold(cross_holds, self.GRID, 2, (rows[:2], columns))
        self.fails_to_hold(cross_holds, self.GRID, 2, (rows, columns[:2]))
        self.fails_to_hold(cross_holds, self.GRID, 1, (rows[:1], columns))

    def test_rows_and_columns_that_are_bent(self):
        self.holds(cross_holds, self.GRID, 1, (((0, 1, 4, 5), (3, 6, 7, 8)), ((0, 3), (4, 7))))
        self.fails_to_hold(cross_holds, self.GRID, 1, (((0, 1, 4, 5), (3, 6, 7, 8)), ((0, 3), (5, 7))))

    def test_one_thing_changed(self):
        for at in (0, 1):
            for number in range(3):
                for place in range(3):
                    for cell in (-1, 9, *range(9)):
                        lanes = list(self.CROSS[at])
                        lane = lanes[number][:place] + (cell,) + lanes[number][place + 1:]
                        same = lane == lanes[number]
                        lanes[number] = lane
                        value = (tuple(lanes), self.CROSS[1]) if at == 0 else (self.CROSS[0], tuple(lanes))
                        self.assertIs(same, cross_holds(self.GRID, 2, value), value)

    def test_lots_apart_or_not_ascending_or_empty(self):
        rows, columns = self.CROSS
        for lane in ((0, 2), (2, 1, 0), (0, 1, 1, 2), (), (0, 1), (0, 1, 2, 3)):
            self.fails_to_hold(cross_holds, self.GRID, 2, ((lane,) + rows[1:], columns))
            self.fails_to_hold(cross_holds, self.GRID, 2, (rows, (lane,) + columns[1:]))
        self.fails_to_hold(cross_holds, self.GRID, 2, (rows + ((),), columns))
        self.fails_to_hold(cross_holds, self.GRID, 2, (rows + ((0, 1, 2),), columns))
        self.fails_to_hold(cross_holds, (9, self.GRID[1][:3]), 2, self.CROSS)

    def test_lists_bools_and_other_values(self):
        for other in lists_within(self.CROSS) + bools_within(self.CROSS):
            self.fails_to_hold(cross_holds, self.GRID, 2, other)
        self.refuses_all(cross_holds, self.GRID, 2)
        rows, columns = self.CROSS
        for value in ANY:
            self.fails_to_hold(cross_holds, self.GRID, 2, (value, columns))
            self.fails_to_hold(cross_holds, self.GRID, 2, (rows, value))
            self.fails_to_hold(cross_holds, self.GRID, 2, (rows + (value,), columns))
            self.fails_to_hold(cross_holds, self.GRID, 2, (rows, columns, value))
            self.fails_to_hold(cross_holds, self.GRID, 2, (((0, 1, value),) + rows[1:], columns) if value != 2 else ())
        self.fails_to_hold(cross_holds, self.GRID, 2, ("cross",) + self.CROSS)


class TestGrids(PaperCase):
    def test_rows_of_the_document(self):
        self.gives(3, grid_room, 3, 50, 3)

    def test_shelves(self):
        self.gives((1, ()), grid_shelf, 1, 1)
        self.gives((3, (("list", (0, 1, 2)),)), grid_shelf, 1, 3)
        self.gives((3, (("list", (0, 1, 2)),)), grid_shelf, 3, 1)
        lanes = ((0, 1, 2), (3, 4, 5), (0, 3), (1, 4), (2, 5))
        self.gives((6, tuple(("list", lane) for lane in lanes)), grid_shelf, 2, 3)
        self.gives(list_shelf(200), grid_shelf, 1, 200)
        self.gives(list_shelf(200), grid_shelf, 200, 1)
        for rows, columns in ((2, 100), (100, 2), (14, 14), (6, 14)):
            shelf = grid_shelf(rows, columns)
            self.assertEqual(shelf, need_shelf(shelf))
            self.assertEqual(2 * rows * columns - rows - columns, len(shelf_links(shelf)))

    def test_sizes(self):
        for function, more in ((grid_shelf, ()), (grid_paper, ("bad", "bad")), (grid_room, ("bad",))):
            self.fails(InvalidSize("cells"), function, 1, 201, *more)
            self.fails(InvalidSize("cells"), function, 201, 1, *more)
            self.fails(InvalidSize("cells"), function, 15, 14, *more)
            self.fails(InvalidSize("cells"), function, 10 ** 30, 10 ** 30, *more)
            self.fails(InvalidSize("rows"), function, 0, 201, *more)
            self.fails(InvalidSize("columns"), function, 201, 0, *more)
        self.fails(InvalidRoom(-1), grid_paper, 2, 3, 0, "bad")

    def test_papers_hold(self):
        for rows in range(1, 7):
            for columns in range(1, 15):
                shelf = grid_shelf(rows, columns)
                for rooms in range(1, 6):
                    least = grid_room(rows, columns, rooms)
                    for room in range(1, 9):
                        paper = grid_paper(rows, columns, room, rooms)
                        self.assertEqual(room >= least, paper[0] == "laid", (rows, columns, room, rooms))
                        if (rows + columns + rooms) % 3 == 0 or rows < 4:
                            self.paper_holds(shelf, room, rooms, paper)

    def test_large_grids(self):
        for rows, columns in ((2, 100), (100, 2), (14, 14), (1, 200), (200, 1), (8, 25)):
            for room, rooms in ((1, 1), (8, 2), (1, 3), (8, 5), (2, 3)):
                paper = self.tell(grid_paper, rows, columns, room, rooms)
                self.paper_holds(grid_shelf(rows, columns), room, rooms, paper)

    def test_told_numbers(self):
        self.gives(1, grid_room, 14, 14, 1)
        self.gives(14, grid_room, 14, 14, 2)
        self.gives(14, grid_room, 14, 14, 5)
        self.gives(1, grid_room, 1, 200, 2)
        self.gives(2, grid_room, 3, 3, 5)
        self.gives(3, grid_room, 3, 3, 4)
        self.gives(3, grid_room, 3, 3, 3)
        self.gives(1, grid_room, 2, 2, 4)
        self.gives(2, grid_room, 2, 2, 3)
        self.gives(("laid", run_layout(9, 2)), grid_paper, 3, 3, 2, 5)

    def test_exactly_so_by_going_through_all_layouts(self):
        for rows, columns in ((1, 1), (1, 4), (2, 2), (2, 3), (3, 2), (2, 4), (3, 3)):
            shelf = grid_shelf(rows, columns)
            for rooms in range(1, 6):
                for room in range(1, 4):
                    laid = grid_paper(rows, columns, room, rooms)[0] == "laid"
                    self.assertEqual(laid, can_be_laid(shelf, room, rooms), (rows, columns, room, rooms))


class TestArms(PaperCase):
    LENGTHS = ((), (1,), (7,), (3, 2), (1, 1, 1), (2, 2, 2), (3, 1, 2), (1, 1, 1, 1), (2, 2, 1, 1, 1), (1,) * 6, (1,) * 8,
               (5, 4, 3, 2, 1), (1, 2, 3, 4, 5, 6, 7, 8), (9, 9, 9, 9, 9, 9), (1,) * 54, (3,) * 18, (20, 1, 1, 1, 1, 1, 20))

    def test_shelves(self):
        self.gives((1, ()), arms_shelf, ())
        self.gives((4, (("list", (0, 1, 2)), ("list", (0, 3)))), arms_shelf, (2, 1))
        self.gives(list_shelf(200), arms_shelf, (199,))
        self.assertEqual(199, len(arms_shelf((1,) * 199)[1]))
        for lengths in self.LENGTHS:
            shelf = self.tell(arms_shelf, lengths)
            self.assertEqual(shelf, need_shelf(shelf))
            self.assertEqual(sum(lengths), len(shelf_links(shelf)))
            self.assertEqual(1, len(cell_parts(shelf)))

    def test_sizes(self):
        for function, more in ((arms_shelf, ()), (arms_paper, ("bad", "bad")), (arms_room, ("bad",))):
            for lengths in ((200,), (199, 1), (0,), (1, 0), (1, True), (1, -1), "1", None, (1, "1")):
                self.fails(InvalidSize("lengths"), function, lengths, *more)

    def test_papers_hold(self):
        for lengths in self.LENGTHS:
            shelf = arms_shelf(lengths)
            for rooms in range(1, 6):
                least = arms_room(lengths, rooms)
                for room in range(1, 9):
                    paper = self.tell(arms_paper, lengths, room, rooms)
                    self.assertEqual(room >= least, paper[0] == "laid", (lengths, room, rooms))
                    self.paper_holds(shelf, room, rooms, paper)

    def test_told_numbers(self):
        self.gives(1, arms_room, (), 5)
        self.gives(1, arms_room, (99, 100), 5)
        self.gives(1, arms_room, (1,) * 199, 1)
        self.gives(1, arms_room, (1,) * 199, 2)
        self.gives(40, arms_room, (1,) * 199, 5)
        self.gives(64, arms_room, (1,) * 191, 3)
        self.gives(2, arms_room, (5, 5, 5), 3)
        self.gives(2, arms_room, (5, 5, 5, 5), 3)
        self.gives(2, arms_room, (5, 5, 5, 5, 1), 3)
        self.gives(3, arms_room, (5, 5, 5, 5, 2), 3)
        self.gives(("arms", 0), arms_paper, (5, 5, 5, 5, 2), 2, 3)
        self.gives(9, arms_room, (10,) * 18, 3)

    def test_exactly_so_by_going_through_all_layouts(self):
        for lengths in ((), (1,), (3, 2), (1, 1, 1), (2, 2, 2), (3, 1, 1), (1, 1, 1, 1), (1,) * 5, (2, 1, 1, 1, 1), (1,) * 6):
            shelf = arms_shelf(lengths)
            for rooms in range(1, 6):
                for room in range(1, 4):
                    laid = arms_paper(lengths, room, rooms)[0] == "laid"
                    self.assertEqual(laid, can_be_laid(shelf, room, rooms), (lengths, room, rooms))


if __name__ == "__main__":
    unittest.main()
