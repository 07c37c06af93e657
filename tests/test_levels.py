"""Promise 32, and what 33 says of its papers of grids and arms."""

import random
import unittest
from functools import lru_cache
from itertools import combinations, product

from slowshelves.crossings import arms_paper, arms_room, arms_shelf, grid_paper, grid_room, grid_shelf
from slowshelves.errors import InvalidCell, InvalidRoom, InvalidRooms, InvalidShelf, InvalidSize
from slowshelves.levels import laid_holds, laid_paper, least_room, part_levels, part_tree
from slowshelves.shelves import cell_parts, list_shelf, ring_shelf, shelf_links
from tests.support import ANY, Case, all_webs, bools_within, calm_by_words, lists_within, parts_of, unlike_webs

# Two cells with three neighbours each, and an arm of some more.
FORKED = (14, (("list", tuple(range(11))), ("list", (3, 11)), ("list", (3, 13)), ("list", (5, 12))))
LADDER = (14, (("list", tuple(range(7))), ("list", tuple(range(7, 14))), *[("list", (at, at + 7)) for at in range(7)]))


def shelf_of(web):
    return web[0], tuple(("list", link) for link in web[1])


@lru_cache(maxsize=None)
def layouts(cells):
    """All layouts of so many cells."""
    if cells == 1:
        return [(0,)]
    return [layout + (block,) for layout in layouts(cells - 1) for block in range(max(layout) + 2)]


def can_be_laid(web, room, rooms):
    for layout in layouts(web[0]):
        if all(layout.count(block) <= room for block in layout):
            links = {tuple(sorted((layout[a], layout[b]))) for a, b in web[1] if layout[a] != layout[b]}
            if calm_by_words((max(layout) + 1, tuple(links)), rooms):
                return True
    return False


def some_shelves():
    yield from [(shelf_of(web), web) for web in [*all_webs(3), *unlike_webs(4), *unlike_webs(5)]]


class TestParts(Case):
    def levels_by_eye(self, shelf, cell, room, levels):
        part = [part for part in cell_parts(shelf) if cell in part][0]
        self.assertEqual(list(part), sorted(other for lot in levels for other in lot))
        self.assertTrue(all(1 <= len(lot) <= room and list(lot) == sorted(lot) for lot in levels))
        at = {other: place for place, lot in enumerate(levels) for other in lot}
        self.assertTrue(all(abs(at[a] - at[b]) <= 1 for a, b in shelf_links(shelf) if a in at))

    def tree_by_eye(self, shelf, cell, room, pairs):
        self.levels_by_lots(shelf, cell, room, [lot for lot, _ in pairs])
        self.assertEqual(-1, pairs[0][1])
        self.assertTrue(all(0 <= ahead < at for at, (_, ahead) in enumerate(pairs) if at))
        at = {other: place for place, (lot, _) in enumerate(pairs) for other in lot}
        for a, b in shelf_links(shelf):
            if a in at:
                self.assertTrue(at[a] == at[b] or pairs[at[a]][1] == at[b] or pairs[at[b]][1] == at[a])

    def levels_by_lots(self, shelf, cell, room, lots):
        part = [part for part in cell_parts(shelf) if cell in part][0]
        self.assertEqual(list(part), sorted(other for lot in lots for other in lot))
        self.assertTrue(all(1 <= len(lot) <= room and list(lot) == sorted(lot) for lot in lots))

    def has_levels(self, shelf, part, room):
        links = [(part.index(a), part.index(b)) for a, b in shelf_links(shelf) if a in part]
        for levels in product(range(len(part)), repeat=len(part)):
            if all(abs(levels[a] - levels[b]) <= 1 for a, b in links) and all(levels.count(at) <= room for at in levels):
                return True
        return False

    def has_tree(self, shelf, part, room):
        """Lots whose web has no rings; they hang together as the part does."""
        links = [(part.index(a), part.index(b)) for a, b in shelf_links(shelf) if a in part]
        for lots in layouts(len(part)):
            if all(lots.count(lot) <= room for lot in lots):
                between = {tuple(sorted((lots[a], lots[b]))) for a, b in links if lots[a] != lots[b]}
                if len(between) == max(lots):
                    return True
        return False

    def test_small_parts(self):
        for shelf, web in some_shelves():
            for part in cell_parts(shelf):
                for room in (1, 2, 3, 8):
                    levels, tree = part_levels(shelf, part[-1], room), part_tree(shelf, part[-1], room)
                    self.assertEqual(self.has_levels(shelf, part, room), levels is not None, (shelf, part, room))
                    self.assertEqual(self.has_tree(shelf, part, room), tree is not None, (shelf, part, room))
                    if levels is not None:
                        self.levels_by_eye(shelf, part[0], room, levels)
                    if tree is not None:
                        self.tree_by_eye(shelf, part[0], room, tree)

    def test_parts_of_six_to_twelve_cells(self):
        luck = random.Random(4)
        for cells in (6, 7, 7, 7, 9, 12):
            for many in (0, 1, 3, 6):
                links = [(luck.randrange(cell), cell) for cell in range(1, cells)]
                links += [tuple(sorted(luck.sample(range(cells), 2))) for _ in range(many)]
                shelf = shelf_of((cells, links))
                told = []
                for room in range(1, 9):
                    levels, tree = self.tell(part_levels, shelf, 0, room), self.tell(part_tree, shelf, 0, room)
                    if levels is not None:
                        self.levels_by_eye(shelf, 0, room, levels)
                        self.assertIsNotNone(tree)
                    if tree is not None:
                        self.tree_by_eye(shelf, 0, room, tree)
                    told.append((levels is None, tree is None))
                    if cells == 6 and room < 4:
                        self.assertEqual(self.has_levels(shelf, tuple(range(6)), room), levels is not None)
                        self.assertEqual(self.has_tree(shelf, tuple(range(6)), room), tree is not None)
                self.assertEqual(sorted(told, reverse=True), told)

    def test_great_rings_and_arms_and_trees(self):
        for cells in (13, 40, 65, 200):
            for room in (1, 2, 5, 8):
                self.great(ring_shelf(cells), room, room >= 2, room >= 2)
                self.great(list_shelf(cells), room, True, True)
        for lengths in ((4, 4, 4), (20, 20, 20), (9, 9, 9, 9, 9, 9), (1,) * 13, (30, 2, 2, 1), (13, 13, 12, 12, 1, 1, 1)):
            for room in range(1, 9):
                middle = 1 + sum(sorted(lengths)[::-1][2 * room:])
                self.great(arms_shelf(lengths), room, middle <= room, True)
        binary = (31, tuple(("list", ((cell - 1) // 2, cell)) for cell in range(1, 31)))
        for room in (1, 8):
            self.tree_by_eye(binary, 0, room, self.tell(part_tree, binary, 30, room))
            self.fails(InvalidSize("cells"), part_levels, binary, 30, room)

    def great(self, shelf, room, has_levels, has_tree):
        levels, tree = self.tell(part_levels, shelf, shelf[0] - 1, room), self.tell(part_tree, shelf, shelf[0] - 1, room)
        self.assertEqual((has_levels, has_tree), (levels is not None, tree is not None), (shelf, room))
        if levels is not None:
            self.levels_by_eye(shelf, 0, room, levels)
        if tree is not None:
            self.tree_by_eye(shelf, 0, room, tree)

    def test_arms_have_levels_exactly_as_33_tells(self):
        for lengths in ((1, 1, 1), (1, 1, 1, 1), (2, 1, 1), (2, 2, 1), (1, 1, 1, 1, 1), (2, 1, 1, 1), (2, 2, 2), (3, 1, 1, 1)):
            shelf = arms_shelf(lengths)
            for room in (1, 2, 3):
                by_eye = self.has_levels(shelf, tuple(range(shelf[0])), room)
                self.assertEqual(by_eye, part_levels(shelf, 0, room) is not None, (lengths, room))

    def test_refused(self):
        self.fails(InvalidSize("cells"), part_levels, FORKED, 0, 8)
        self.assertIsNotNone(part_tree(FORKED, 0, 1))
        for function in (part_levels, part_tree):
            self.fails(InvalidSize("cells"), function, LADDER, 13, 8)
            self.fails(InvalidCell(-1), function, LADDER, 14, 9)
            self.fails(InvalidRoom(-1), function, LADDER, 13, 9)
        two = (20, LADDER[1] + (("list", (14, 15)),))
        self.fails(InvalidSize("cells"), part_levels, two, 3, 2)
        self.assertEqual(2, sum(len(lot) for lot in part_levels(two, 14, 2)))
        self.assertEqual(((16,),), part_levels(two, 16, 2))
        self.assertEqual((((16,), -1),), part_tree(two, 16, 2))


class TestLaid(Case):
    def test_small_shelves_by_all_layouts(self):
        for shelf, web in some_shelves():
            for room, rooms in product((1, 2, 3), (1, 2, 3)):
                paper = laid_paper(shelf, room, rooms)
                self.assertIs(True, laid_holds(shelf, room, rooms, paper), (shelf, room, rooms, paper))
                self.assertEqual(can_be_laid(web, room, rooms), paper[0] == "laid", (shelf, room, rooms))

    def test_just_one_kind_has_papers(self):
        for shelf, web in some_shelves():
            for room, rooms in product((1, 2), (1, 2, 3)):
                laid = can_be_laid(web, room, rooms)
                others = [("tried", cell) for cell in range(web[0])] + [("arms", cell) for cell in range(web[0])]
                others += [("ball", cell, steps) for cell in range(web[0]) for steps in range(4)]
                for paper in others:
                    if laid_holds(shelf, room, rooms, paper):
                        self.assertFalse(laid, (shelf, room, rooms, paper))
                for layout in layouts(web[0]):
                    self.assertIs(self.is_laid(web, room, rooms, layout), laid_holds(shelf, room, rooms, ("laid", layout)))

    def is_laid(self, web, room, rooms, layout):
        if any(layout.count(block) > room for block in layout):
            return False
        links = {tuple(sorted((layout[a], layout[b]))) for a, b in web[1] if layout[a] != layout[b]}
        return calm_by_words((max(layout) + 1, tuple(links)), rooms)

    def test_least_room(self):
        for shelf, web in some_shelves():
            for rooms in (1, 2, 3, 4):
                wanted = [room for room in range(1, 9) if laid_paper(shelf, room, rooms)[0] == "laid"]
                self.assertEqual(wanted[0], self.tell(least_room, shelf, rooms))
                self.assertEqual(wanted, list(range(wanted[0], 9)))
        self.gives(2, least_room, ring_shelf(65), 2)
        self.gives(2, least_room, ring_shelf(65), 5)
        self.gives(1, least_room, ring_shelf(65), 1)
        self.gives(1, least_room, ring_shelf(5), 5)
        self.gives(None, least_room, arms_shelf((9,) * 20), 3)
        self.gives(7, least_room, arms_shelf((1,) * 20), 3)
        self.gives(8, least_room, arms_shelf((1,) * 23), 3)
        self.gives(None, least_room, arms_shelf((1,) * 24), 3)
        self.gives(1, least_room, arms_shelf((9,) * 20), 2)
        self.gives(3, least_room, shelf_of((12, tuple(combinations(range(12), 2)))), 4)
        self.gives(4, least_room, shelf_of((12, tuple(combinations(range(12), 2)))), 3)
        self.gives(6, least_room, shelf_of((12, tuple(combinations(range(12), 2)))), 2)

    def test_seven_cells(self):
        luck = random.Random(6)
        for _ in range(25):
            many = luck.randint(5, 12)
            web = (7, tuple({tuple(sorted(luck.sample(range(7), 2))) for _ in range(many)}))
            for room, rooms in product((1, 2, 3), (2, 3)):
                paper = self.tell(laid_paper, shelf_of(web), room, rooms)
                self.holds(laid_holds, shelf_of(web), room, rooms, paper)
                if max(len(part) for part in parts_of(web)) > 4:
                    self.assertEqual(can_be_laid(web, room, rooms), paper[0] == "laid")

    def test_shelves_whose_parts_are_trees_always_can_with_two_rooms(self):
        luck = random.Random(7)
        for cells in (5, 13, 40, 65, 200):
            links = [(luck.randrange(max(0, cell - 9), cell), cell) for cell in range(1, cells) if luck.random() < .95]
            for room in (1, 3):
                paper = laid_paper(shelf_of((cells, links)), room, 2)
                self.assertEqual("laid", paper[0])
                self.holds(laid_holds, shelf_of((cells, links)), room, 2, paper)

    def test_papers_of_grids_and_arms(self):
        for rows, columns in ((1, 1), (1, 9), (2, 2), (2, 5), (3, 3), (3, 5), (4, 4), (6, 6), (6, 14)):
            for room, rooms in product(range(1, 9), range(1, 6)):
                paper = grid_paper(rows, columns, room, rooms)
                self.assertIs(True, laid_holds(grid_shelf(rows, columns), room, rooms, paper), (rows, columns, room, rooms))
                self.assertEqual(paper[0] == "laid", room >= grid_room(rows, columns, rooms))
        for lengths in ((), (1,), (3, 3), (1, 1, 1), (2, 2, 2, 2), (1,) * 12, (9, 9, 9, 9, 9, 8), (18, 18, 18), (1,) * 54):
            for room, rooms in product(range(1, 9), range(1, 6)):
                paper = arms_paper(lengths, room, rooms)
                self.assertIs(True, laid_holds(arms_shelf(lengths), room, rooms, paper), (lengths, room, rooms))
                self.assertEqual(paper[0] == "laid", room >= arms_room(lengths, rooms))
                if rooms > 1:
                    self.assertEqual(paper[0] == "laid", laid_paper(arms_shelf(lengths), room, rooms)[0] == "laid")

    def test_balls_and_arms(self):
        star = arms_shelf((1,) * 6)
        for room, rooms, cell, steps, holds in (
            (2, 3, 0, 1, True), (2, 2, 0, 1, False), (2, 4, 0, 1, False), (3, 3, 0, 1, False), (2, 3, 1, 1, False), (1, 3, 1, 2, True),
            (1, 3, 1, 3, False), (2, 3, 0, 2, False), (1, 3, 0, 10 ** 30, False), (2, 3, 0, -1, False), (1, 3, 0, 0, False),
        ):
            self.gives(holds, laid_holds, star, room, rooms, ("ball", cell, steps), paper=True)
        for room, rooms, cell, holds in ((1, 3, 0, True), (2, 3, 0, True), (3, 3, 0, False), (1, 2, 0, False), (1, 3, 1, False)):
            self.gives(holds, laid_holds, star, room, rooms, ("arms", cell), paper=True)
        more = arms_shelf((3, 3, 3, 3, 2))
        self.holds(laid_holds, more, 2, 3, ("arms", 0))
        self.fails_to_hold(laid_holds, arms_shelf((3, 3, 3, 3, 1)), 2, 3, ("arms", 0))
        joined = (6, (("ring", (0, 1, 2)), ("list", (3, 0, 4)), ("list", (0, 5))))
        self.holds(laid_holds, joined, 1, 3, ("arms", 0))
        self.fails_to_hold(laid_holds, joined, 2, 3, ("arms", 0))
        apart = (7, (("list", (0, 1)), ("list", (0, 2)), ("list", (0, 3)), ("list", (4, 5, 6))))
        self.holds(laid_holds, apart, 1, 3, ("arms", 0))
        self.fails_to_hold(laid_holds, apart, 1, 4, ("arms", 0))
        self.holds(laid_holds, apart, 1, 3, ("ball", 0, 1))
        self.fails_to_hold(laid_holds, apart, 1, 4, ("ball", 0, 1))
        self.holds(laid_holds, apart, 1, 3, ("tried", 3))
        self.fails_to_hold(laid_holds, apart, 1, 3, ("tried", 4))
        self.fails_to_hold(laid_holds, apart, 1, 2, ("tried", 3))

    def test_crosses(self):
        shelf = grid_shelf(3, 3)
        kind, rows, columns = grid_paper(3, 3, 2, 2)
        self.assertEqual("cross", kind)
        self.holds(laid_holds, shelf, 2, 2, ("cross", rows, columns))
        self.holds(laid_holds, shelf, 2, 4, ("cross", columns, rows))
        self.fails_to_hold(laid_holds, shelf, 2, 1, ("cross", columns, rows))
        self.fails_to_hold(laid_holds, shelf, 2, 5, ("cross", columns, rows))
        self.fails_to_hold(laid_holds, shelf, 3, 2, ("cross", columns, rows))
        self.fails_to_hold(laid_holds, shelf, 2, 2, ("cross", rows[:2], columns))
        self.fails_to_hold(laid_holds, shelf, 2, 2, ("cross", rows))
        self.fails_to_hold(laid_holds, shelf, 2, 2, ("cross", rows, columns, ()))
        self.fails_to_hold(laid_holds, shelf, 2, 2, ("cross", (rows, columns)))

    def test_laid_layouts_of_any_size(self):
        shelf = list_shelf(200)
        self.holds(laid_holds, shelf, 1, 3, ("laid", tuple(range(200))))
        self.holds(laid_holds, ring_shelf(200), 1, 1, ("laid", tuple(range(200))))
        self.fails_to_hold(laid_holds, ring_shelf(200), 1, 2, ("laid", tuple(range(200))))
        self.fails_to_hold(laid_holds, shelf, 1, 3, ("laid", tuple(range(1, 200)) + (0,)))
        self.fails_to_hold(laid_holds, shelf, 1, 3, ("laid", tuple(range(199))))
        self.fails_to_hold(laid_holds, shelf, 1, 3, ("laid", tuple(range(199)) + (198,)))
        self.holds(laid_holds, shelf, 2, 3, ("laid", tuple(range(199)) + (198,)))
        for room, rooms in product((1, 8), range(1, 6)):
            self.holds(laid_holds, shelf, room, rooms, self.tell(laid_paper, shelf, room, rooms))

    def test_errors(self):
        for rooms, shelf in ((2, LADDER), (3, LADDER), (3, FORKED)):
            self.fails(InvalidSize("cells"), laid_paper, shelf, 2, rooms)
            self.fails(InvalidSize("cells"), least_room, shelf, rooms)
            self.fails_to_hold(laid_holds, shelf, 2, rooms, ("tried", 0))
        self.assertEqual("laid", laid_paper(FORKED, 2, 2)[0])
        self.gives(1, least_room, FORKED, 2)
        self.gives(1, least_room, LADDER, 1)
        self.assertEqual("laid", laid_paper(LADDER, 7, 2)[0])
        self.assertEqual("laid", laid_paper(LADDER, 1, 1)[0])
        self.fails(InvalidSize("cells"), laid_paper, LADDER, 6, 2)
        self.assertEqual("laid", laid_paper(LADDER, 3, 5)[0])
        both = (20, LADDER[1] + tuple(("list", pair) for pair in combinations(range(14, 20), 2)))
        self.fails(InvalidSize("cells"), laid_paper, both, 1, 3)
        self.fails(InvalidSize("cells"), laid_paper, (20, both[1][::-1]), 1, 3)
        first = (20, tuple(("list", pair) for pair in combinations(range(6), 2))
                 + tuple((kind, tuple(cell + 6 for cell in row)) for kind, row in LADDER[1]))
        for rooms in (2, 3):
            self.assertEqual("tried", laid_paper((6, first[1][:15]), 1, rooms)[0])
            self.fails(InvalidSize("cells"), laid_paper, first, 1, rooms)
            self.holds(laid_holds, first, 1, rooms, ("tried", 5))
            self.fails_to_hold(laid_holds, first, 1, rooms, ("tried", 6))
        self.fails(InvalidShelf(-1), laid_paper, 0, 0, 0)
        self.fails(InvalidRoom(-1), laid_paper, LADDER, 0, 0)
        self.fails(InvalidRooms(-1), laid_paper, LADDER, 2, 0)
        self.fails(InvalidRooms(-1), least_room, LADDER, 0)

    def test_other_values_do_not_hold(self):
        star = arms_shelf((1,) * 5)
        papers = [("tried", 0), ("arms", 0), ("ball", 0, 1), grid_paper(3, 3, 1, 3), ("laid", tuple(range(6)))]
        for shelf, room, rooms, paper in (
            (star, 1, 3, papers[0]), (star, 1, 3, papers[1]), (star, 1, 3, papers[2]), (grid_shelf(3, 3), 1, 3, papers[3]),
            (star, 1, 2, papers[4]), (star, 2, 3, laid_paper(star, 2, 3)),
        ):
            self.holds(laid_holds, shelf, room, rooms, paper)
            self.refuses_all(laid_holds, shelf, room, rooms)
            for other in lists_within(paper) + bools_within(paper):
                self.fails_to_hold(laid_holds, shelf, room, rooms, other)
            for value in ANY:
                for at in range(len(paper)):
                    if type(value) is not int and value != paper[at]:
                        self.fails_to_hold(laid_holds, shelf, room, rooms, paper[:at] + (value,) + paper[at + 1:])
                if paper[0] != "arms" or value != 1:
                    self.fails_to_hold(laid_holds, shelf, room, rooms, paper + (value,))
                for kind in ("laid", "ball", "arms", "cross", "tried"):
                    self.fails_to_hold(laid_holds, star, 3, 3, (kind, value))
                    self.fails_to_hold(laid_holds, star, 3, 3, (kind, value, value))
        for cell in (-1, 6, 10 ** 30):
            for paper in (("tried", cell), ("arms", cell), ("ball", cell, 1)):
                self.fails_to_hold(laid_holds, star, 1, 3, paper)


if __name__ == "__main__":
    unittest.main()
