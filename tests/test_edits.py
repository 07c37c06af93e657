"""Promise 26."""

import unittest
from itertools import product

from slowshelves.calm import calm_rooms
from slowshelves.edits import edit_rows, fill_holds, fill_paper, lists_web
from slowshelves.errors import InvalidEdit, InvalidLists, InvalidRoom, InvalidSize
from tests.support import ANY, NO_NUMBER, Case, bools_within, lists_within

SIZES = [(room, least) for room in range(1, 6) for least in range(1, (room + 1) // 2 + 1)]


def compositions(cells, room, least, first=True):
    """All rows of filled runs of so many cells; the only run may have fewer."""
    rows = [()] if cells == 0 else []
    for length in range(1, min(room, cells) + 1):
        if length >= least or (first and length == cells):
            rows += [(length,) + row for row in compositions(cells - length, room, least, False)]
    return rows


def stays_of(row, lengths, used):
    """All (stays, used blocks) that runs of these lengths can have; used blocks are left."""
    found = {(0, used)}
    place = 0
    for length in lengths:
        cells = row[place:place + length]
        place += length
        found |= {
            (stays + cells.count(block), taken | {block})
            for stays, taken in found
            for block in set(cells) - taken - {-1}
        } if cells else set()
        # Leaving a run a new block is in found already; what took no block here stays as it is.
    return found


def most_stays(rows, room, least):
    """The most cells that stay in filled lists of these rows, by going through all."""
    found = {frozenset(): 0}
    for row in rows:
        behind = {}
        for used, stays in found.items():
            for lengths in compositions(len(row), room, least):
                for more, taken in stays_of(row, lengths, used):
                    behind[taken] = max(stays + more, behind.get(taken, 0))
        found = behind
    return max(found.values())


def span_of(row, place):
    """The block with cells on both sides of the place, or None."""
    both = set(row[:place]) & set(row[place:]) - {-1}
    return min(both) if both else None


def height_of(row, room, least, place, used):
    """How many cells can stay from the place on, -1 if no runs fit."""
    rows = compositions(len(row) - place, room, least, place == 0)
    found = [stays for lengths in rows for stays, _ in stays_of(row[place:], lengths, used)]
    return max(found, default=-1)


def small_lists(room, least, runs):
    """All filled lists of up to so many runs, blocks numbered on."""
    lists = [()]
    lists += [((0, cells),) for cells in range(1, room + 1)]
    for many in range(2, runs + 1):
        lists += [tuple(enumerate(row)) for row in product(range(least, room + 1), repeat=many)]
    return lists


def numbered_on(runs, first):
    return tuple((block + first, cells) for block, cells in runs)


def edits_of(lists):
    many = [sum(cells for _, cells in runs) for runs in lists]
    for at in range(len(lists)):
        yield from [("put", at, where) for where in range(many[at] + 1)]
        yield from [("take", at, where) for where in range(many[at])]
        yield from [("cut", at, where) for where in range(1, many[at])]
        yield from [("join", at, other) for other in range(len(lists)) if other != at]


class TestLists(Case):
    def test_rows_behind_edits(self):
        lists = (((5, 2), (7, 1)), (), ((2, 1),))
        self.gives(((5, -1, 5, 7), (), (2,)), edit_rows, lists, ("put", 0, 1))
        self.gives(((5, 5, 7, -1), (), (2,)), edit_rows, lists, ("put", 0, 3))
        self.gives(((-1, 5, 5, 7), (), (2,)), edit_rows, lists, ("put", 0, 0))
        self.gives(((5, 5, 7), (-1,), (2,)), edit_rows, lists, ("put", 1, 0))
        self.gives(((5, 5), (), (2,)), edit_rows, lists, ("take", 0, 2))
        self.gives(((5, 5, 7), (), ()), edit_rows, lists, ("take", 2, 0))
        self.gives(((5,), (5, 7), (), (2,)), edit_rows, lists, ("cut", 0, 1))
        self.gives(((5, 5), (7,), (), (2,)), edit_rows, lists, ("cut", 0, 2))
        self.gives(((5, 5, 7, 2), ()), edit_rows, lists, ("join", 0, 2))
        self.gives(((), (2, 5, 5, 7)), edit_rows, lists, ("join", 2, 0))
        self.gives(((5, 5, 7), (2,)), edit_rows, lists, ("join", 1, 2))
        self.gives(((5, 5, 7), (2,)), edit_rows, lists, ("join", 2, 1))
        self.gives(((5, 5, 7), (2,)), edit_rows, lists, ("join", 0, 1))

    def test_no_edit_without_a_list(self):
        for edit in (("put", 0, 0), ("take", 0, 0), ("join", 0, 0), ("join", 0, 1)):
            self.fails(InvalidEdit(), edit_rows, (), edit)

    def test_runs_of_60_cells_and_long_blocks(self):
        self.gives(((10 ** 30,) * 60 + (-1,),), edit_rows, (((10 ** 30, 60),),), ("put", 0, 60))
        self.fails(InvalidLists(0), edit_rows, (((0, 61),),), ("put", 0, 60))
        self.fails(InvalidLists(1), edit_rows, (((0, 1),), ((3, 4), (0, 1))), ("put", 0, 0))

    def test_web(self):
        self.gives((3, ((0, 1),)), lists_web, (((5, 2), (7, 1)), (), ((2, 1),)))
        self.gives((1, ()), lists_web, (((5, 60),),))
        self.fails(InvalidSize("blocks"), lists_web, ())
        self.fails(InvalidSize("blocks"), lists_web, ((), ()))
        runs = tuple((block, 1) for block in range(41))
        self.assertEqual((40, tuple((at, at + 1) for at in range(39))), lists_web((runs[:40],)))
        self.fails(InvalidSize("blocks"), lists_web, (runs,))
        self.fails(InvalidSize("blocks"), lists_web, (runs[:20], runs[20:]))

    def test_web_is_calm(self):
        for lists in product(small_lists(2, 1, 3), repeat=2):
            if any(lists):
                self.gives((1, 2, 3, 4, 5), calm_rooms, lists_web((lists[0], numbered_on(lists[1], 9))))


class TestFill(Case):
    def test_least(self):
        lists = (((0, 2),),)
        for room in range(1, 9):
            for least in range(1, 9):
                if 2 * least <= room + 1:
                    self.tell(fill_paper, room, least, lists, ("put", 0, 0))
                else:
                    self.fails(InvalidSize("least"), fill_paper, room, least, lists, "bad")
                    self.fails(InvalidSize("least"), fill_holds, room, least, lists, "bad", ())
        self.fails(InvalidSize("least"), fill_paper, 8, 0, "bad", "bad")
        self.fails(InvalidRoom(-1), fill_paper, 9, 0, "bad", "bad")

    def test_told_numbers(self):
        self.assertEqual(1, fill_paper(4, 2, (((0, 4),),), ("put", 0, 4))[0])
        self.assertEqual(2, fill_paper(4, 2, (((0, 4),),), ("put", 0, 2))[0])
        self.assertEqual(1, fill_paper(4, 2, (((0, 2), (1, 2)),), ("take", 0, 0))[0])
        self.assertEqual(2, fill_paper(4, 2, (((0, 4),),), ("cut", 0, 2))[0])
        self.assertEqual(1, fill_paper(4, 2, (((0, 1),), ((1, 1),)), ("join", 0, 1))[0])
        self.gives((0, ((), ()), ((((0, 0),),) * 2,) * 2), fill_paper, 1, 1, (((3, 1),), ()), ("take", 0, 0))
        self.gives((0, (((0, 1),),), ((((0, 0), (0, 0)),) * 2,)), fill_paper, 1, 1, ((),), ("put", 0, 0))

    def test_told_heights(self):
        """Two cells of block 5, a new one, one of block 5; then three cells of block 5, two of block 6, cut at 2."""
        moved, filled, heights = self.tell(fill_paper, 2, 1, (((5, 3),),), ("put", 0, 2))
        self.assertEqual((1, (5, 2)), (moved, filled[0][0]))
        tops = ((2, 2), (1, 0), (1, 0), (1, 0), (0, 0))
        self.assertEqual(((tops, tops),), heights)
        moved, filled, heights = self.tell(fill_paper, 4, 2, (((5, 3), (6, 2)),), ("cut", 0, 2))
        self.assertEqual(1, moved)
        self.assertEqual((((2, 2), (-1, -1), (0, 0)), ((0, 0), (-1, -1), (0, 0))), heights[0])
        self.assertEqual((((2, 2), (2, 2), (-1, -1), (0, 0)), ((2, 2), (2, 2), (-1, -1), (0, 0))), heights[1])

    def check(self, room, least, lists, edit):
        rows = edit_rows(lists, edit)
        moved, filled, heights = paper = fill_paper(room, least, lists, edit)
        kept = sum(block != -1 for row in rows for block in row)
        self.assertEqual(kept - most_stays(rows, room, least), moved, (room, least, lists, edit))
        self.assertIs(True, fill_holds(room, least, lists, edit, paper))
        blocks = [block for runs in filled for block, _ in runs]
        self.assertEqual(len(set(blocks)), len(blocks))
        for row, runs in zip(rows, filled):
            self.assertIn(tuple(cells for _, cells in runs), compositions(len(row), room, least))
        new_rows = [[block for block, cells in runs for _ in range(cells)] for runs in filled]
        off = [a != b for row, new in zip(rows, new_rows) for a, b in zip(row, new) if a != -1]
        self.assertEqual(moved, sum(off))
        self.check_heights(room, least, rows, edit, heights)
        return moved

    def check_heights(self, room, least, rows, edit, heights):
        cut = set(rows[edit[1]]) & set(rows[edit[1] + 1]) if edit[0] == "cut" else set()
        for at, row in enumerate(rows):
            for barred, told in zip((set(), cut if at in (edit[1], edit[1] + 1) else set()), heights[at]):
                wanted = []
                for place in range(len(row) + 1):
                    span = span_of(row, place)
                    used = barred | ({span} if span is not None else set())
                    wanted.append((height_of(row, room, least, place, frozenset(barred)),
                                   height_of(row, room, least, place, frozenset(used))))
                self.assertEqual(tuple(wanted), told, (room, least, rows, edit, at))

    def test_filled_lists_by_going_through_all(self):
        for room, least in SIZES:
            if room > 4:
                continue
            for runs in small_lists(room, least, 2):
                for edit in edits_of((runs,)):
                    moved = self.check(room, least, (runs,), edit)
                    bound = {"put": room // 2, "take": least - 1, "cut": max(2 * least - 1, room // 2)}[edit[0]]
                    self.assertLessEqual(moved, bound, (room, least, runs, edit))
            for one in small_lists(room, least, 1):
                for other in small_lists(room, least, 2):
                    self.assertLessEqual(self.check(room, least, (one, numbered_on(other, 7)), ("join", 0, 1)), least - 1)

    def test_bounds_for_longer_filled_lists(self):
        for room, least in SIZES + [(8, 1), (8, 4), (7, 4)]:
            for runs in small_lists(room, least, 3 if room < 5 else 2):
                for edit in edits_of((runs,)):
                    moved = fill_paper(room, least, (runs,), edit)[0]
                    bound = {"put": room // 2, "take": least - 1, "cut": max(2 * least - 1, room // 2)}[edit[0]]
                    self.assertLessEqual(moved, bound, (room, least, runs, edit))

    def test_other_lists_by_going_through_all(self):
        told = [((0, 6),), ((0, 1), (1, 1), (2, 1)), ((0, 5), (1, 1)), ((3, 1), (1, 5), (4, 1)), ((0, 2), (1, 3))]
        for room, least in SIZES:
            for runs in told:
                for edit in edits_of((runs,)):
                    self.check(room, least, (runs,), edit)
                for edit in edits_of((((8, 2), (9, 1)), runs, ())):
                    if room in (1, 3):
                        self.check(room, least, (((8, 2), (9, 1)), runs, ()), edit)

    def test_thirty_cells(self):
        lists = [tuple((40 * at + block, 3) for block in range(10)) for at in range(4)]
        for edit in (("put", 1, 14), ("take", 2, 0), ("cut", 3, 16), ("join", 0, 3)):
            for room, least in ((8, 4), (8, 1), (5, 3), (1, 1), (2, 1)):
                paper = self.tell(fill_paper, room, least, lists, edit)
                self.holds(fill_holds, room, least, lists, edit, paper)


class TestJudge(Case):
    CASES = (
        (3, 2, (((0, 3), (1, 3)), ((4, 2),)), ("put", 0, 1)),
        (3, 2, (((0, 3), (1, 3)), ((4, 2),)), ("cut", 0, 2)),
        (4, 2, (((5, 4), (6, 2)),), ("cut", 0, 2)),
        (4, 2, (((5, 2), (6, 2)),), ("take", 0, 0)),
        (3, 1, (((1, 3),), ((0, 3),)), ("join", 1, 0)),
    )

    def test_moved_changed(self):
        for case in self.CASES:
            moved, filled, heights = fill_paper(*case)
            for other in (moved - 1, moved + 1, -1, None, True, False, str(moved)):
                self.fails_to_hold(fill_holds, *case, (other, filled, heights))

    def test_other_filled_lists(self):
        case = (3, 1, (((0, 3),),), ("put", 0, 3))
        _, _, heights = fill_paper(*case)
        for runs in (((0, 3), (1, 1)), ((0, 3), (77, 1))):
            self.holds(fill_holds, *case, (0, (runs,), heights))
        for runs in (((0, 2), (1, 2)), ((1, 3), (0, 1)), ((0, 3),), ((0, 3), (1, 2)), ((0, 3), (0, 1)), ((0, 4),), ((0, 3), (1, 0))):
            self.fails_to_hold(fill_holds, *case, (0, (runs,), heights))
        for told in ((), (((0, 3), (1, 1)), ()), ((0, 3), (1, 1)), (((0, 3), (1, 1), ()),), (((0, 3), 1),)):
            self.fails_to_hold(fill_holds, *case, (0, told, heights))
        self.fails_to_hold(fill_holds, *case, (0, (((0, 3), (-1, 1)),), heights))
        for worth in NO_NUMBER:
            self.fails_to_hold(fill_holds, *case, (0, (((0, 3), (worth, 1)),), heights))
            self.fails_to_hold(fill_holds, *case, (0, (((0, 3), (1, worth)),), heights))

    def test_short_runs_beside_others(self):
        case = (3, 2, (((0, 3),),), ("put", 0, 3))
        moved, filled, heights = fill_paper(*case)
        self.assertEqual((1, 2, 2), (moved, filled[0][0][1], filled[0][1][1]))
        self.fails_to_hold(fill_holds, *case, (0, (((0, 3), (1, 1)),), heights))
        case = (3, 2, ((),), ("put", 0, 0))
        self.holds(fill_holds, *case, (0, (((9, 1),),), fill_paper(*case)[2]))

    def changed_heights(self, heights, by):
        """The heights with one number changed, and its list, tuple, place and side."""
        for at, pair in enumerate(heights):
            for tuple_at, row in enumerate(pair):
                for place, both in enumerate(row):
                    for side in (0, 1):
                        new = both[:side] + (both[side] + by,) + both[side + 1:]
                        new_row = row[:place] + (new,) + row[place + 1:]
                        new_pair = pair[:tuple_at] + (new_row,) + pair[tuple_at + 1:]
                        yield (at, tuple_at, place, side), heights[:at] + (new_pair,) + heights[at + 1:]

    def test_lesser_heights_do_not_hold(self):
        for case in self.CASES:
            moved, filled, heights = fill_paper(*case)
            for _, other in self.changed_heights(heights, -1):
                self.fails_to_hold(fill_holds, *case, (moved, filled, other))

    def test_greater_heights_hold_where_they_show_the_number(self):
        held = 0
        for case in self.CASES:
            moved, filled, heights = fill_paper(*case)
            for (at, tuple_at, place, side), other in self.changed_heights(heights, 1):
                told = fill_holds(*case, (moved, filled, other))
                if place == len(heights[at][tuple_at]) - 1:
                    self.assertIs(False, told)
                elif place == 0 and side == 1:
                    self.assertIs(True, told)
                if place == 0 and side == 0 and case[3][0] != "cut":
                    self.assertIs(tuple_at == 1, told)
                held += told
        self.assertGreater(held, 5)

    def test_heights_raised_all_the_way_show_less(self):
        case = (3, 1, (((0, 3),),), ("put", 0, 3))
        moved, filled, heights = fill_paper(*case)
        row = heights[0][0]
        raised = tuple((a + 1, b + 1) for a, b in row[:-1]) + ((0, 0),)
        self.fails_to_hold(fill_holds, *case, (moved, filled, ((raised, row),)))
        self.fails_to_hold(fill_holds, *case, (moved - 1, filled, ((raised, row),)))
        self.holds(fill_holds, *case, (moved, filled, ((row, raised),)))

    def test_a_place_where_no_runs_fit_may_be_told_to_fit(self):
        """A height above -1 there binds what comes ahead of it."""
        case = (3, 2, (((0, 3), (1, 2)),), ("take", 0, 0))
        moved, filled, heights = fill_paper(*case)
        self.assertEqual((0, (((4, 4), (2, 2), (2, 2), (-1, -1), (0, 0)),) * 2), (moved, heights[0]))
        row = heights[0][0]
        for pair in ((0, -1), (0, 0), (1, -1), (1, 1)):
            self.holds(fill_holds, *case, (moved, filled, ((row[:3] + (pair,) + row[4:], row),)))
        for pair in ((2, -1), (1, 2), (-2, -1)):
            self.fails_to_hold(fill_holds, *case, (moved, filled, ((row[:3] + (pair,) + row[4:], row),)))

    def test_papers_with_lists_or_bools_within_do_not_hold(self):
        for case in self.CASES:
            paper = fill_paper(*case)
            for other in lists_within(paper) + bools_within(paper):
                self.fails_to_hold(fill_holds, *case, other)

    def test_other_values_do_not_hold(self):
        for case in self.CASES:
            self.refuses_all(fill_holds, *case)
            moved, filled, heights = fill_paper(*case)
            for value in ANY:
                self.fails_to_hold(fill_holds, *case, (moved, value, heights))
                self.fails_to_hold(fill_holds, *case, (moved, filled, value))
                self.fails_to_hold(fill_holds, *case, (moved, filled, (value,) + heights[1:]))
                self.fails_to_hold(fill_holds, *case, (moved, (value,) + filled[1:], heights))
                self.fails_to_hold(fill_holds, *case, (moved, filled, heights, value))
                self.fails_to_hold(fill_holds, *case, (moved, ((value,) + filled[0],) + filled[1:], heights))
                told = (((value,) + heights[0][0][1:], heights[0][1]),) + heights[1:]
                self.fails_to_hold(fill_holds, *case, (moved, filled, told))


if __name__ == "__main__":
    unittest.main()
