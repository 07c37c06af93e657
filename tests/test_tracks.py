"""Promises 8, 9, 11 and, of 10, folded walks."""

import unittest
from itertools import combinations, product

from slowshelves.blocks import layout_blocks, layout_web, plain_layout, run_layout, web_shelf
from slowshelves.errors import (
    InvalidFold, InvalidIndex, InvalidLayout, InvalidSize, InvalidTrack, InvalidWalk, InvalidWeb,
)
from slowshelves.shelves import list_shelf, ring_shelf
from slowshelves.tracks import (
    folded_walk, follow_holds, follow_paper, need_touches, need_track, need_walk, need_way, nth_walk, piece_layout,
    piece_lots, track_walk, walk_count, walk_number, walk_track, walk_way,
)
from tests.support import ANY, Case, all_webs, bools_within, lists_within, rows_of, unlike_webs, walks_of

LINE = (3, ((0, 1), (1, 2)))
# Block 0 has the cells 0 and 2 apart: who comes from 1 cannot go on to 3.
APART = ((4, (("list", (0, 1)), ("list", (2, 3)))), (0, 1, 0, 2))


def struck(row):
    return tuple(block for at, block in enumerate(row) if at == 0 or row[at - 1] != block)


def range_of(many):
    return tuple(range(many))


def layouts_of(cells):
    return sorted({plain_layout(row) for row in product(range(cells), repeat=cells)})


def small_laid_shelves():
    for web in [*all_webs(3), *unlike_webs(4), *unlike_webs(5)]:
        for layout in layouts_of(web[0]):
            yield web_shelf(web), layout, rows_of(web)


def ends_of_ways(rows, layout, walk):
    """For each touch the cells at which ways along the walk up to it can end."""
    ends = []
    for block in walk:
        cells = [cell for cell in range(len(layout)) if layout[cell] == block]
        found = {cell for cell in cells if not ends or rows[cell] & ends[-1]}
        while any(rows[cell] & found and cell not in found for cell in cells):
            found |= {cell for cell in cells if rows[cell] & found}
        ends.append(found)
    return ends


class TestRows(Case):
    def test_touches(self):
        self.gives((0, 39, 0), need_touches, (0, 39, 0))
        self.gives((5,), need_touches, (5,))
        self.gives((0, 1) * 200, need_touches, (0, 1) * 200)
        self.fails(InvalidWalk(-1), need_touches, (0, 1) * 200 + (0,))
        self.fails(InvalidWalk(1), need_touches, (0, 40, 40))

    def test_walks(self):
        self.gives((0, 1, 2, 1, 0), need_walk, LINE, (0, 1, 2, 1, 0))
        self.gives((2,), need_walk, LINE, (2,))
        self.gives((0, 1) * 200, need_walk, LINE, (0, 1) * 200)
        self.fails(InvalidWalk(2), need_walk, LINE, (1, 0, 2))
        self.fails(InvalidWalk(1), need_walk, LINE, (1, 1))
        self.fails(InvalidWalk(0), need_walk, LINE, (3,))
        self.fails(InvalidWalk(-1), need_walk, LINE, (0, 1) * 200 + (0,))

    def test_tracks(self):
        shelf, layout = APART
        self.gives((0, 2, 3, 3, 2, 0, 1), need_track, shelf, layout, (0, 2, 3, 3, 2, 0, 1))
        self.gives((0, 2) * 500, need_track, shelf, (7, 1, 7, 2), (0, 2) * 500)
        self.fails(InvalidTrack(-1), need_track, shelf, layout, (0, 2) * 500 + (0,))
        self.fails(InvalidTrack(1), need_track, shelf, layout, (1, 2))
        self.fails(InvalidTrack(2), need_track, shelf, layout, (1, 1, 3))

    def test_ways(self):
        self.gives((0, 1, 0), need_way, APART[0], (0, 1, 0))
        self.gives((3,), need_way, APART[0], (3,))
        self.gives((0, 1) * 500, need_way, APART[0], (0, 1) * 500)
        self.fails(InvalidTrack(-1), need_way, APART[0], (0, 1) * 500 + (0,))
        self.fails(InvalidTrack(1), need_way, APART[0], (0, 0))
        self.fails(InvalidTrack(1), need_way, APART[0], (0, 2))

    def test_walk_of_a_row_of_cells(self):
        self.gives((0, 1, 0), track_walk, (7, 7, 3, 3), (0, 1, 0, 2, 3, 1))
        self.gives((0,), track_walk, (7, 7, 3, 3), (1,))
        self.gives((0, 1) * 500, track_walk, (7, 3), (0, 1) * 500)
        self.gives((0,), track_walk, (7, 7), (0, 1) * 500)
        self.fails(InvalidTrack(-1), track_walk, (7, 3), (0, 1) * 500 + (0,))
        self.fails(InvalidTrack(1), track_walk, (7, 3), (0, 2))

    def test_too_many_blocks_behind_the_layouts_errors(self):
        shelf = list_shelf(41)
        for function in (walk_track, piece_lots, walk_way):
            self.fails(InvalidSize("blocks"), function, shelf, range_of(41), "bad")
            self.fails(InvalidLayout(3), function, shelf, (0, 1, 2, "bad") + range_of(41)[4:], "bad")
        for function in (follow_paper, lambda shelf, layout: follow_holds(shelf, layout, "bad")):
            self.fails(InvalidSize("blocks"), function, shelf, range_of(41))
            self.fails(InvalidLayout(-1), function, shelf, range_of(42))
        self.gives(range_of(41), piece_layout, shelf, range_of(41))
        self.gives((3, 4), need_track, shelf, range_of(41), (3, 4))
        self.gives((2, 3), walk_track, shelf, (0,) + range_of(40), (1, 2))


class TestTracks(Case):
    def test_the_walk_of_each_short_track_is_a_walk(self):
        for shelf, layout, rows in small_laid_shelves():
            if shelf[0] > 4:
                continue
            web = layout_web(shelf, layout)
            for track in product(range(shelf[0]), repeat=4):
                good = all(b in rows[a] or layout[a] == layout[b] for a, b in zip(track, track[1:]))
                if good:
                    self.assertEqual(track, need_track(shelf, layout, track))
                    walk = track_walk(layout, track)
                    self.assertEqual(struck([layout[cell] for cell in track]), walk)
                    self.assertEqual(walk, need_walk(web, walk))
                else:
                    self.assertRaises(InvalidTrack, need_track, shelf, layout, track)

    def test_each_short_walk_is_the_walk_of_a_track(self):
        for shelf, layout, _ in small_laid_shelves():
            web = layout_web(shelf, layout)
            for touches in (1, 2, 4):
                for walk in walks_of(web, touches):
                    track = walk_track(shelf, layout, walk)
                    self.assertEqual(track, need_track(shelf, layout, track))
                    self.assertLessEqual(len(track), 2 * touches)
                    self.assertEqual(walk, track_walk(layout, track))

    def test_long_ones(self):
        shelf = ring_shelf(200)
        layout = run_layout(200, 5)
        walk = tuple(at % 40 for at in range(400))
        track = self.tell(walk_track, shelf, layout, walk)
        self.assertEqual(walk, track_walk(layout, track))
        way = self.tell(walk_way, shelf, layout, walk)
        self.assertEqual(walk, struck([layout[cell] for cell in way]))
        self.assertEqual([(cell + 1) % 200 for cell in way[:-1]], list(way[1:]))
        self.assertEqual(tuple((block,) for block in walk), piece_lots(shelf, layout, walk))


class TestFollowed(Case):
    def test_pieces(self):
        self.gives((0, 1, 2, 3), piece_layout, *APART)
        self.gives((0, 1, 0, 2, 2), piece_layout, (5, (("list", (0, 2)), ("list", (3, 4)))), (4, 4, 4, 5, 5))
        self.gives((0, 0, 1, 0), piece_layout, ring_shelf(4), (3, 3, 2, 3))
        self.gives(range_of(200), piece_layout, (200, ()), (0,) * 200)
        self.gives((0,), piece_layout, (1, ()), (9,))

    def test_told_lots(self):
        self.gives(((0, 2),), piece_lots, *APART, (0,))
        self.gives(((1,), (0,), ()), piece_lots, *APART, (1, 0, 2))
        self.gives(((1,), (0,), (), ()), piece_lots, *APART, (1, 0, 2, 0))
        self.gives(((0, 2), (1,), (0,)), piece_lots, *APART, (0, 1, 0))
        self.gives(None, walk_way, *APART, (1, 0, 2))
        self.gives((1, 0, 1), walk_way, *APART, (1, 0, 1))
        self.gives((0,), walk_way, *APART, (0,))

    def test_told_papers(self):
        self.gives(("walk", (1, 0, 2)), follow_paper, *APART)
        for paper in (("walk", (1, 0, 2)), ("walk", (2, 0, 1)), ("walk", (0, 1, 0, 2)), ("walk", (1, 0) * 700 + (2,))):
            self.holds(follow_holds, *APART, paper)
        for paper in (("walk", (1, 0, 1)), ("walk", (1, 2)), ("walk", (0,)), ("walk", (1, 0, 3)), ("walk", (1, 0, 2, -1))):
            self.fails_to_hold(follow_holds, *APART, paper)
        self.fails_to_hold(follow_holds, *APART, ("all", ((0,), (2,), (1,), (3,))))

    def test_lots_along_all_short_walks(self):
        for shelf, layout, rows in small_laid_shelves():
            web = layout_web(shelf, layout)
            pieces = piece_layout(shelf, layout)
            self.assertEqual(pieces, plain_layout(pieces))
            for walk in walks_of(web, 4):
                ends = ends_of_ways(rows, layout, walk)
                lots = tuple(tuple(sorted({pieces[cell] for cell in cells})) for cells in ends)
                self.assertEqual(lots, piece_lots(shelf, layout, walk))
                way = walk_way(shelf, layout, walk)
                self.assertEqual(bool(ends[-1]), way is not None)
                if way is not None:
                    self.assertEqual(way, need_way(shelf, way))
                    self.assertEqual(walk, track_walk(layout, way))

    def test_papers_of_all_small_ones(self):
        for shelf, layout, rows in small_laid_shelves():
            web = layout_web(shelf, layout)
            kind, told = paper = follow_paper(shelf, layout)
            self.assertIs(True, follow_holds(shelf, layout, paper))
            lost = None
            for touches in range(1, 6):
                walks = [walk for walk in walks_of(web, touches) if not ends_of_ways(rows, layout, walk)[-1]]
                lost = lost or (walks and walks[0])
                for walk in walks[:20]:
                    self.assertIs(True, follow_holds(shelf, layout, ("walk", walk)))
            if lost:
                self.assertEqual(("walk", lost), paper)
            else:
                self.assertTrue(kind == "all" or len(told) > 5)
            if layout_blocks(layout) == layout_blocks(piece_layout(shelf, layout)):
                self.assertEqual("all", kind)

    def test_lots_show_that_each_walk_is_followed(self):
        for shelf, layout, rows in small_laid_shelves():
            if shelf[0] > 4:
                continue
            blocks = layout_blocks(piece_layout(shelf, layout))
            of_block = [[at for at, cells in enumerate(blocks) if layout[cells[0]] == block] for block in range(max(layout) + 1)]
            lots = [lot for row in of_block for many in range(1, len(row) + 1) for lot in combinations(row, many)]
            kind = follow_paper(shelf, layout)[0]
            families = [told for many in range(len(lots) + 1) for told in combinations(lots, many)][:200]
            held = [told for told in families if follow_holds(shelf, layout, ("all", told))]
            if kind == "walk":
                self.assertEqual([], held)
            elif len(lots) < 8:
                self.assertNotEqual([], held)
            for told in held[:3]:
                twice = tuple(lot[::-1] + lot for lot in told[::-1]) + told
                self.assertIs(True, follow_holds(shelf, layout, ("all", twice)))
                self.assertIs(False, follow_holds(shelf, layout, ("all", told + ((),))))
                self.assertIs(False, follow_holds(shelf, layout, ("all", told + ((len(blocks),),))))
                self.assertIs(False, follow_holds(shelf, layout, ("all", told + ((-1,),))))

    def test_lots_of_several_blocks_do_not_hold(self):
        self.holds(follow_holds, list_shelf(4), (0, 0, 1, 1), ("all", ((0,), (1,))))
        self.fails_to_hold(follow_holds, list_shelf(4), (0, 0, 1, 1), ("all", ((0,), (1,), (0, 1))))
        self.fails_to_hold(follow_holds, list_shelf(4), (0, 0, 1, 1), ("all", ((0,),)))
        self.fails_to_hold(follow_holds, list_shelf(4), (0, 0, 1, 1), ("all", ()))

    def test_what_is_linked_is_asked_for_each_lot(self):
        shelf = (4, (("list", (0, 1)), ("list", (2, 3)), ("list", (1, 2))))
        layout = (0, 1, 0, 1)
        self.holds(follow_holds, shelf, layout, follow_paper(shelf, layout))
        self.fails_to_hold(follow_holds, APART[0], APART[1], ("all", ((0, 2), (1,), (3,))))

    def test_a_lot_that_no_lot_lies_behind(self):
        shelf = (5, (("list", (0, 1)), ("list", (0, 4)), ("list", (2, 3))))
        self.holds(follow_holds, shelf, (0, 1, 0, 2, 2), ("all", ((0,), (1,), (4,))))
        self.fails_to_hold(follow_holds, shelf, (0, 1, 0, 2, 2), ("all", ((0,), (1,), (4,), (3,))))

    def test_papers_with_lists_or_bools_within_do_not_hold(self):
        for shelf, layout in (APART, (list_shelf(6), (0, 0, 1, 1, 2, 2)), ((2, ()), (0, 0))):
            paper = follow_paper(shelf, layout)
            self.holds(follow_holds, shelf, layout, paper)
            for other in lists_within(paper) + bools_within(paper):
                self.fails_to_hold(follow_holds, shelf, layout, other)

    def test_other_values_do_not_hold(self):
        self.refuses_all(follow_holds, *APART)
        for value in ANY:
            self.fails_to_hold(follow_holds, *APART, ("walk", value))
            self.fails_to_hold(follow_holds, *APART, ("all", value))
            self.fails_to_hold(follow_holds, *APART, ("walk", (1, 0, 2, value)) if value not in (0,) else ())
            self.fails_to_hold(follow_holds, *APART, (value, (1, 0, 2)) if value != "walk" else ())
            if value not in ((0,), (0, 1), (1, 0), ()):
                self.fails_to_hold(follow_holds, list_shelf(2), (0, 1), ("all", ((0,), (1,), value)))
        self.fails_to_hold(follow_holds, *APART, ("walk", (1, 0, 2), ()))

    def test_blocks_of_eight_pieces(self):
        """24 cells, each cell of a block linked to two of the next: many lots are met."""
        links = [("list", (a, 8 + b)) for a in range(8) for b in (a, (a + 1) % 8)]
        links += [("list", (8 + a, 16 + b)) for a in range(8) for b in (a, (a * 3 + 1) % 8)]
        shelf = (24, links)
        layout = run_layout(24, 8)
        paper = self.tell(follow_paper, shelf, layout)
        self.assertEqual("all", paper[0])
        self.holds(follow_holds, shelf, layout, paper)

    def test_the_shortest_lost_walk_can_be_long(self):
        """Who goes round comes one cell further each time, and from the last one no further."""
        links = [("list", (a, 8 + a)) for a in range(8)] + [("list", (a, 16 + a)) for a in range(8)]
        links += [("list", (8 + a, 17 + a)) for a in range(7)]
        self.gives(("walk", (1, 2) + (0, 1, 2) * 7), follow_paper, (24, links), run_layout(24, 8))
        self.assertIsNotNone(walk_way((24, links), run_layout(24, 8), (0, 1, 2) * 7))
        self.assertIsNone(walk_way((24, links), run_layout(24, 8), (1, 2) + (0, 1, 2) * 7))


class TestFoldedWalks(Case):
    def test_told(self):
        self.gives((0, 1, 0), folded_walk, LINE, (0, 0, 1), (0, 1, 2, 1, 0))
        self.gives((0,), folded_walk, LINE, (0, 0, 0), (0, 1, 2, 1, 0))
        self.gives((2, 1, 0), folded_walk, LINE, (2, 1, 0), (0, 1, 2))
        self.fails(InvalidFold(-1), folded_walk, LINE, (1, 1, 1), "bad")
        self.fails(InvalidWeb(-1), folded_walk, (0, ()), (1, 1, 1), "bad")


class TestNumbers(Case):
    def test_all_short_walks(self):
        for web in all_webs(4):
            for touches in range(1, 5):
                walks = walks_of(web, touches)
                self.assertEqual(len(walks), walk_count(web, touches))
                for number, walk in enumerate(walks):
                    self.assertEqual(walk, nth_walk(web, touches, number))
                    self.assertEqual(number, walk_number(web, walk))
                self.fails(InvalidIndex(-1), nth_walk, web, touches, len(walks))

    def test_told(self):
        self.gives(3, walk_count, LINE, 1)
        self.gives(4, walk_count, LINE, 2)
        self.gives(6, walk_count, LINE, 3)
        self.gives((1, 0, 1), nth_walk, LINE, 3, 2)
        self.gives(2, walk_number, LINE, (1, 0, 1))
        self.gives(0, walk_count, (40, ()), 2)
        self.gives(40, walk_count, (40, ()), 1)
        self.fails(InvalidIndex(-1), nth_walk, (40, ()), 2, 0)

    def test_400_touches_of_40_blocks(self):
        web = (40, tuple(combinations(range(40), 2)))
        self.gives(40 * 39 ** 399, walk_count, web, 400)
        walk = self.tell(nth_walk, web, 400, 40 * 39 ** 399 - 1)
        self.assertEqual((39, 38) * 200, walk)
        walk = nth_walk(web, 400, 39 ** 399 * 17 + 12345)
        self.assertEqual(39 ** 399 * 17 + 12345, walk_number(web, walk))
        self.fails(InvalidIndex(-1), nth_walk, web, 400, 40 * 39 ** 399)
        self.fails(InvalidSize("touches"), walk_count, web, 401)


if __name__ == "__main__":
    unittest.main()
