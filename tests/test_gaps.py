"""Promise 14."""

import unittest
from itertools import combinations, product

from slowshelves.errors import InvalidGaps, InvalidRooms, InvalidRun, InvalidWalk, Refused
from slowshelves.gaps import are_kept, gap_loads, kept_run, run_gaps, walk_gaps
from tests.support import Case

TOUCHES = (0, 1, 2, 0, 1)


def all_touches(most, blocks):
    rows = [(block,) for block in range(blocks)]
    while rows and len(rows[0]) <= most:
        yield from rows
        rows = [row + (block,) for row in rows for block in range(blocks) if block != row[-1]]


def all_runs(touches, rooms):
    """All (run, memories) with rooms for each moment."""
    found = [((), ())]
    for at, block in enumerate(touches):
        longer = []
        for run, memories in found:
            others = set(memories[-1] if memories else ()) - {block}
            out = max(0, len(others) + 1 - rooms[at])
            for lot in combinations(sorted(others), out):
                longer.append((run + (lot,), memories + (tuple(sorted(others - set(lot) | {block})),)))
        found = longer
    return found


def gaps_by_eye(touches):
    return tuple((s, t) for s, t in combinations(range(len(touches)), 2)
                 if touches[s] == touches[t] and touches[s] not in touches[s + 1:t])


def stays(touches, memories, gap):
    return all(touches[gap[0]] in memories[at] for at in range(gap[0], gap[1]))


def room_rows(touches):
    for rooms in (1, 2, 3):
        yield rooms, (rooms,) * len(touches)
    if len(touches) <= 5:
        for rooms in product((1, 2, 3), repeat=len(touches)):
            yield rooms, rooms


class TestGaps(Case):
    def test_told(self):
        self.gives(((0, 3), (1, 4)), walk_gaps, TOUCHES)
        self.gives((), walk_gaps, (7,))
        self.gives((0, 1, 2, 1, 0), gap_loads, TOUCHES, ((1, 4), (0, 3)))
        self.gives((0, 0, 0, 0, 0), gap_loads, TOUCHES, ())
        self.gives(True, are_kept, TOUCHES, 3, ((1, 4), (0, 3)))
        self.gives(False, are_kept, TOUCHES, 2, ((1, 4), (0, 3)))
        self.gives(True, are_kept, TOUCHES, (1, 2, 3, 2, 1), ((1, 4), (0, 3)))
        self.gives(False, are_kept, TOUCHES, (5, 5, 2, 5, 5), ((1, 4), (0, 3)))
        self.gives(False, are_kept, (0, 1, 0), (5, 1, 5), ((0, 2),))
        self.gives(((0, 3), (1, 4)), run_gaps, TOUCHES, 3, ((), (), (), (), ()))
        self.gives(((1, 4),), run_gaps, TOUCHES, 2, ((), (), (0,), (2,), ()))
        self.gives((), run_gaps, TOUCHES, 1, ((), (0,), (1,), (2,), (0,)))

    def test_gaps_of_all_small_touches(self):
        for touches in all_touches(6, 4):
            self.assertEqual(gaps_by_eye(touches), walk_gaps(touches))

    def test_loads_of_all_lots(self):
        for touches in all_touches(6, 3):
            gaps = gaps_by_eye(touches)
            for many in range(len(gaps) + 1):
                for lot in combinations(gaps, many):
                    loads = tuple(sum(s < at < t for s, t in lot) for at in range(len(touches)))
                    self.assertEqual(loads, gap_loads(touches, lot[::-1]))
                    for rooms, row in room_rows(touches):
                        self.assertIs(all(load < most for load, most in zip(loads, row)), are_kept(touches, rooms, lot))

    def test_gaps_that_stay_are_kept(self):
        for touches in all_touches(6, 3):
            for rooms, row in room_rows(touches):
                for run, memories in all_runs(touches, row):
                    told = run_gaps(touches, rooms, run)
                    gaps = tuple(gap for gap in gaps_by_eye(touches) if stays(touches, memories, gap))
                    self.assertEqual(gaps, told)
                    self.assertIs(True, are_kept(touches, rooms, told))

    def test_whatever_is_kept_stays_in_some_run(self):
        for touches in [*all_touches(5, 4), *all_touches(7, 3)]:
            gaps = gaps_by_eye(touches)
            for rooms, row in room_rows(touches):
                for many in range(len(gaps) + 1):
                    for lot in combinations(gaps, many):
                        self.kept(touches, rooms, row, lot)

    def kept(self, touches, rooms, row, lot):
        loads = [sum(s < at < t for s, t in lot) for at in range(len(touches))]
        full = [at for at, load in enumerate(loads) if load >= row[at]]
        if full:
            self.fails(Refused(full[0]), kept_run, touches, rooms, lot)
        else:
            run = kept_run(touches, rooms, lot)
            self.assertLessEqual(set(lot), set(run_gaps(touches, rooms, run)))

    def test_run_told_is_a_run(self):
        for touches in all_touches(5, 3):
            for rooms, row in room_rows(touches):
                self.assertIn(kept_run(touches, rooms, ()), [run for run, _ in all_runs(touches, row)])

    def test_limits(self):
        touches = tuple(range(40)) * 10
        gaps = walk_gaps(touches)
        self.assertEqual(360, len(gaps))
        self.assertEqual(39, max(gap_loads(touches, gaps)))
        lot = tuple(gap for gap in gaps if gap[0] % 40 < 4)
        self.gives(True, are_kept, touches, 5, lot)
        run = self.tell(kept_run, touches, 5, lot)
        self.assertLessEqual(set(lot), set(self.tell(run_gaps, touches, 5, run)))
        self.fails(Refused(5), kept_run, touches, 5, gaps)
        self.gives((), walk_gaps, (39,))
        self.gives(((),), kept_run, (39,), 1, ())
        self.gives(((),), kept_run, (39,), [5], ())

    def test_moments_with_fewer_rooms_put_out_several(self):
        self.gives(((), (), (0, 1), ()), kept_run, (0, 1, 2, 3), (3, 3, 1, 3), ())
        self.gives((), run_gaps, (0, 1, 2, 0), (3, 3, 1, 3), ((), (), (0, 1), ()))
        self.fails(InvalidRun(2), run_gaps, (0, 1, 2, 0), (3, 3, 1, 3), ((), (), (1, 0), ()))
        self.fails(InvalidRun(2), run_gaps, (0, 1, 2, 0), (3, 3, 1, 3), ((), (), (0,), ()))
        self.fails(InvalidRun(2), run_gaps, (0, 1, 2, 0), (3, 3, 1, 3), ((), (), (0, 0), ()))
        self.fails(InvalidRun(2), run_gaps, (0, 1, 2, 0), (3, 3, 1, 3), ((), (), (0, 2), ()))

    def test_order_of_errors(self):
        self.fails(InvalidWalk(1), are_kept, (0, 0), 0, 7)
        self.fails(InvalidRooms(-1), are_kept, TOUCHES, (0,) * 6, 7)
        self.fails(InvalidRooms(4), kept_run, TOUCHES, (1, 1, 1, 1, 6), 7)
        self.fails(InvalidGaps(1), kept_run, TOUCHES, 1, ((0, 3), (0, 3)))
        self.fails(InvalidRun(5), run_gaps, TOUCHES, 5, ((),) * 6)
        self.fails(InvalidRun(4), run_gaps, TOUCHES, 5, ((),) * 4)
        self.fails(InvalidRun(0), run_gaps, TOUCHES, 5, ())
        self.fails(InvalidRun(0), run_gaps, TOUCHES, 5, (0,) * 6)


if __name__ == "__main__":
    unittest.main()
