"""Promise 27."""

import random
import unittest

from slowshelves.edits import edit_rows
from slowshelves.errors import InvalidEdit, InvalidLists, InvalidRoom, InvalidSize, Refused
from slowshelves.keeper import fill_height, kept_edit
from tests.support import Case

SIZES = [(room, least) for room in range(1, 9) for least in (1, 2, 3) if 2 * least <= room + 1 and 6 * least <= room + 6]


def cells_of(lists):
    return [[block for block, cells in runs for _ in range(cells)] for runs in lists]


def height_by_eye(room, lists):
    height = 0
    for runs in lists:
        for _, cells in runs:
            height += max(2 * cells - room, 0) if len(runs) == 1 else abs(2 * cells - room)
    return height


def is_filled(room, least, lists):
    return all(cells <= room and (cells >= least or len(runs) == 1) for runs in lists for _, cells in runs)


def all_edits(lists):
    many = [sum(cells for _, cells in runs) for runs in lists]
    for at, cells in enumerate(many):
        yield from [("put", at, place) for place in range(cells + 1)]
        yield from [("take", at, place) for place in range(cells)]
        yield from [("cut", at, place) for place in range(1, cells)]
        yield from [("join", at, other) for other in range(len(many)) if other != at]


def all_lists(room, least):
    """All filled lists of one list or two, of up to three runs, some sizes left out."""
    sizes = sorted({least, least + 1, room // 2, room - 1, room} & set(range(least, room + 1)))
    runs = [[]] + [[one] for one in range(1, room + 1)]
    runs += [[one, other] for one in sizes for other in sizes]
    runs += [[one, other, last] for one in sizes[:2] for other in sizes[-2:] for last in sizes[::2]]
    for row in runs:
        yield (tuple((at, cells) for at, cells in enumerate(row)),)
        for more in runs[:room + 2] + runs[room + 2::3]:
            yield (tuple((2 * at + 1, cells) for at, cells in enumerate(row)),
                   tuple((4 * at, cells) for at, cells in enumerate(more)))


class TestKeeper(Case):
    def check(self, room, least, lists, edit):
        behind, moved = kept_edit(room, least, lists, edit)
        where = (room, least, lists, edit)
        self.assertTrue(is_filled(room, least, behind), where)
        elder = edit_rows(lists, edit)
        cells = cells_of(behind)
        self.assertEqual([len(row) for row in elder], [len(row) for row in cells], where)
        blocks = [block for runs in behind for block, _ in runs]
        self.assertEqual(len(set(blocks)), len(blocks), where)
        unlike = sum(old not in (-1, new) for row, news in zip(elder, cells) for old, new in zip(row, news))
        self.assertEqual(unlike, moved, where)
        paid = 2 * moved + height_by_eye(room, behind)
        more = 2 * room if edit[0] in ("cut", "join") else 0
        self.assertLessEqual(paid, height_by_eye(room, lists) + 2 + more, where)
        used = {block for runs in lists for block, _ in runs}
        fresh = min(set(range(len(used) + 1)) - used)
        self.assertLessEqual(set(blocks), used | {fresh}, where)
        return behind, moved

    def test_all_edits_of_small_lists(self):
        for room, least in SIZES:
            for lists in all_lists(room, least):
                for edit in all_edits(lists):
                    self.check(room, least, lists, edit)

    def test_long_rows_of_edits_pay_for_themselves(self):
        luck = random.Random(8)
        for room, least in SIZES:
            for _ in range(6):
                lists, moved, paid = ((),) * luck.randint(1, 4), 0, 0
                for _ in range(150):
                    edits = list(all_edits(lists))
                    words = sorted({edit[0] for edit in edits} - ({"take"} if luck.random() < .4 else set()))
                    word = luck.choice(words)
                    edit = luck.choice([edit for edit in edits if edit[0] == word])
                    if len(lists) == 4 and word == "cut":
                        continue
                    lists, more = self.check(room, least, lists, edit)
                    moved += more
                    paid += room if word in ("cut", "join") else 1
                    self.assertLessEqual(moved, paid)

    def test_told(self):
        one = (((5, 3), (7, 4)),)
        self.gives(((((5, 4), (7, 4)),), 0), kept_edit, 4, 1, one, ("put", 0, 0))
        self.gives(((((5, 4), (7, 4)),), 0), kept_edit, 4, 1, one, ("put", 0, 3))
        self.gives(((((5, 3), (0, 2), (7, 3)),), 1), kept_edit, 4, 1, one, ("put", 0, 4))
        self.gives(((((5, 3), (7, 2), (0, 3)),), 2), kept_edit, 4, 1, one, ("put", 0, 5))
        self.gives(((((5, 3), (7, 2), (0, 3)),), 2), kept_edit, 4, 1, one, ("put", 0, 7))
        self.gives(((((5, 2), (0, 2)),), 1), kept_edit, 3, 1, (((5, 3),),), ("put", 0, 3))
        self.gives(((((0, 2), (5, 2)),), 1), kept_edit, 3, 1, (((5, 3),),), ("put", 0, 0))
        self.gives((((), ((1, 1),), ((0, 2),)), 0), kept_edit, 4, 1, ((), (), ((0, 2),)), ("put", 1, 0))
        self.gives((((),), 0), kept_edit, 4, 1, (((9, 1),),), ("take", 0, 0))
        self.gives(((((7, 4),),), 0), kept_edit, 4, 1, (((9, 1), (7, 4)),), ("take", 0, 0))

    def test_cuts_told(self):
        lists = (((5, 4), (2, 4)), ((0, 1),))
        self.gives(((((5, 4),), ((2, 4),), ((0, 1),)), 0), kept_edit, 4, 1, lists, ("cut", 0, 4))
        self.gives(((((1, 1),), ((5, 3), (2, 4)), ((0, 1),)), 1), kept_edit, 4, 1, lists, ("cut", 0, 1))
        self.gives(((((5, 2),), ((1, 2), (2, 4)), ((0, 1),)), 2), kept_edit, 4, 1, lists, ("cut", 0, 2))
        self.gives(((((5, 4), (2, 3)), ((1, 1),), ((0, 1),)), 1), kept_edit, 4, 1, lists, ("cut", 0, 7))
        self.gives(((((0, 1), (5, 4), (2, 4)),), 0), kept_edit, 4, 1, lists, ("join", 1, 0))
        self.gives(((((5, 4), (2, 4), (0, 1)),), 0), kept_edit, 4, 1, lists, ("join", 0, 1))

    def test_runs_of_too_few_cells_told(self):
        row = (((5, 2), (2, 6), (3, 4)),)
        self.gives(((((5, 3), (2, 4), (3, 4)),), 2), kept_edit, 6, 2, row, ("take", 0, 0))
        self.gives(((((2, 6), (3, 4)),), 1), kept_edit, 6, 2, (((5, 2), (2, 5), (3, 4)),), ("take", 0, 1))
        self.gives(((((2, 6), (3, 5)),), 1), kept_edit, 6, 2, (((2, 6), (3, 4), (5, 2)),), ("take", 0, 10))
        self.gives(((((3, 4), (5, 3)),), 2), kept_edit, 6, 2, (((3, 6), (5, 2)),), ("take", 0, 7))
        self.gives(((((3, 5), (5, 4)),), 3), kept_edit, 8, 2, (((3, 8), (5, 2)),), ("take", 0, 9))
        self.gives(((((5, 4), (3, 5)),), 3), kept_edit, 8, 2, (((5, 2), (3, 8)),), ("take", 0, 0))
        self.gives(((((5, 1),),), 0), kept_edit, 6, 2, (((5, 2),),), ("take", 0, 1))
        self.gives(((((5, 2),),), 1), kept_edit, 6, 2, (((5, 1),), ((3, 1),)), ("join", 0, 1))
        self.gives(((((3, 2),),), 1), kept_edit, 6, 2, (((5, 1),), ((3, 1),)), ("join", 1, 0))
        self.gives(((((0, 1),), ((3, 5),)), 1), kept_edit, 6, 2, (((3, 6),),), ("cut", 0, 1))
        self.gives(((((1, 1),), ((3, 5), (0, 6))), 1), kept_edit, 6, 2, (((3, 6), (0, 6)),), ("cut", 0, 1))
        self.gives(((((3, 5), (0, 2)), ((1, 4),)), 0), kept_edit, 6, 2, (((3, 5), (0, 2), (1, 4)),), ("cut", 0, 7))
        self.gives(((((3, 6),), ((0, 5), (1, 4))), 1), kept_edit, 6, 2, (((3, 5), (0, 6), (1, 4)),), ("cut", 0, 6))
        self.gives(((((3, 4), (2, 3)), ((0, 5), (1, 4))), 3), kept_edit, 6, 2, (((3, 6), (0, 6), (1, 4)),), ("cut", 0, 7))

    def test_heights_told(self):
        self.gives(0, fill_height, 4, ())
        self.gives(0, fill_height, 4, ((), ((0, 2),), ((1, 1),)))
        self.gives(4, fill_height, 4, (((0, 4),),))
        self.gives(6, fill_height, 4, (((0, 4), (1, 1)),))
        self.gives(119, fill_height, 1, (((0, 60),),))
        self.gives(120, fill_height, 8, (((0, 60), (7, 8)),))

    def test_least(self):
        for room in range(1, 9):
            for least in range(0, 7):
                lists = (((0, 1),),)
                if least >= 1 and 2 * least <= room + 1 and 6 * least <= room + 6:
                    self.tell(kept_edit, room, least, lists, ("take", 0, 0))
                else:
                    self.fails(InvalidSize("least"), kept_edit, room, least, lists, ("take", 0, 0))
        self.assertEqual([(1, 1), (2, 1), (3, 1), (4, 1), (5, 1), (6, 1), (6, 2), (7, 1), (7, 2), (8, 1), (8, 2)], SIZES)

    def test_errors(self):
        self.fails(InvalidRoom(-1), kept_edit, 9, 0, 0, 0)
        self.fails(InvalidSize("least"), kept_edit, 8, 3, 0, 0)
        self.fails(InvalidLists(1), kept_edit, 4, 1, (((0, 9),), 0), 0)
        self.fails(Refused(0), kept_edit, 4, 1, (((0, 5),), ((1, 5),)), 0)
        self.fails(Refused(1), kept_edit, 6, 2, (((0, 1),), ((1, 5), (2, 1)), ((3, 7),)), 0)
        self.fails(Refused(2), kept_edit, 6, 2, (((0, 1),), ((1, 5), (2, 2)), ((3, 7),)), ("take", 0, 0))
        self.fails(InvalidEdit(), kept_edit, 6, 2, (((0, 1),), ((1, 5), (2, 2)), ((3, 6),)), ("take", 0, 1))


if __name__ == "__main__":
    unittest.main()
