"""Promises 43 and 44."""

import random
import unittest

from slowshelves.ahead import ahead_needed, seer_run, two_room_rounds
from slowshelves.errors import InvalidRooms, InvalidSize, InvalidWalk, InvalidWeb
from slowshelves.forks import longest_common
from tests.support import (
    Case, all_webs, calm_by_words, least_moves, line, ring, rows_of, unlike_webs, walks_of, whole,
)


def run_moves(case, rooms, walk, run):
    """How many moves a run makes, looked at whether it is one."""
    case.assertEqual(len(walk), len(run))
    memory, moves = set(), 0
    for block, lot in zip(walk, run):
        moves += block not in memory
        memory |= {block}
        case.assertEqual(max(0, len(memory) - rooms), len(lot))
        case.assertTrue(set(lot) <= memory - {block} and list(lot) == sorted(set(lot)))
        memory -= set(lot)
    return moves


def rounds_by_eye(walk):
    pairs, begin = [], 0
    while True:
        ends = [t for t in range(begin, len(walk)) if walk[t] in walk[begin:t]]
        if not ends:
            return tuple(pairs)
        t = ends[0]
        pairs.append((max(s for s in range(begin, t) if walk[s] == walk[t]), t))
        begin = t - 1


def ways_on(rows, row):
    """All walks of unlike blocks that begin with the row."""
    yield row
    for block in rows[row[-1]]:
        if block not in row:
            yield from ways_on(rows, row + (block,))


def firsts_by_eye(web, touched, at_hand, seen):
    """Blocks of the touched ones that can be the first repeat, by all walks of unlike blocks."""
    found = set()
    ends = [k for k, block in enumerate(seen) if block in touched]
    wanted = (at_hand,) + tuple(seen[:ends[0] + 1] if ends else seen)
    if len(set(wanted)) < len(wanted):
        return found
    for way in ways_on(rows_of(web), wanted):
        met = [block for block in way if block in touched]
        if met and way[-1] == met[0]:
            found.add(met[0])
    return found


def seer_by_eye(web, walk, ahead):
    memory, run = set(), []
    for at, block in enumerate(walk):
        lot = ()
        if block not in memory and len(memory) == 2:
            near = walk[at - 1]
            (far,) = memory - {near}
            pairs = rounds_by_eye(walk[:at])
            begin = pairs[-1][1] - 1 if pairs else 0
            touched = set(walk[begin:at])
            firsts = set() if block in touched else firsts_by_eye(web, touched, block, walk[at + 1:at + 1 + ahead])
            lot = (near,) if far in firsts and near not in firsts else (far,)
        memory = memory - set(lot) | {block}
        run.append(lot)
    return tuple(run)


class TestAhead(Case):
    def test_told(self):
        self.gives(1, ahead_needed, whole(3), 2)
        self.gives(None, ahead_needed, (4, ((0, 1), (0, 2), (0, 3))), 3)
        self.gives(((1, 3), (3, 5)), two_room_rounds, (0, 1, 2, 1, 0, 1))
        self.gives((), two_room_rounds, (7,))
        self.gives(((0, 2), (1, 3), (2, 4)), two_room_rounds, (0, 1, 0, 1, 0))
        for many in range(3, 9):
            self.gives(1, ahead_needed, ring(many), 2)
            self.gives(many - 2, ahead_needed, whole(many), 2)
        self.gives(0, ahead_needed, whole(2), 2)
        self.gives(0, ahead_needed, (40, ()), 2)
        for rooms in (3, 4, 5):
            self.gives(None, ahead_needed, whole(40), rooms)
            self.gives(0, ahead_needed, line(40), rooms)
        self.gives(0, ahead_needed, whole(40), 1)
        self.fails(InvalidSize("blocks"), ahead_needed, line(9), 2)
        self.fails(InvalidSize("blocks"), ahead_needed, whole(9), 2)
        self.gives(0, ahead_needed, (9, line(8)[1]), 2)

    def test_calm_exactly_if_nothing_has_to_be_seen(self):
        for web in [*all_webs(4), *unlike_webs(5)]:
            for rooms in range(1, 6):
                needed = ahead_needed(web, rooms)
                self.assertEqual(calm_by_words(web, rooms), needed == 0)
                if rooms == 2:
                    common = longest_common(web)
                    self.assertEqual(0 if common is None else common + 1, needed)
                elif rooms > 2:
                    self.assertIn(needed, (0, None))

    def test_rounds_by_eye(self):
        for many, touches in ((2, 9), (3, 8), (4, 7), (5, 5)):
            for length in range(1, touches + 1):
                for walk in walks_of(whole(many), length):
                    pairs = two_room_rounds(walk)
                    self.assertEqual(rounds_by_eye(walk), pairs)
                    self.assertEqual(least_moves(walk, 2), len(walk) - len(pairs))
        self.assertEqual(398, len(self.tell(two_room_rounds, (0, 1) * 200)))

    def test_seers_by_eye(self):
        luck = random.Random(4)
        for web in [*all_webs(3), *unlike_webs(4), *unlike_webs(5), ring(7), whole(6)]:
            rows = rows_of(web)
            for _ in range(12):
                walk = [luck.randrange(web[0])]
                while len(walk) < 20 and rows[walk[-1]]:
                    walk.append(luck.choice(sorted(rows[walk[-1]])))
                for ahead in range(0, 6):
                    told = seer_run(web, 2, walk, ahead)
                    self.assertEqual(seer_by_eye(web, tuple(walk), ahead), told, (web, walk, ahead))

    def test_seers_of_other_numbers_of_rooms(self):
        for web in unlike_webs(4):
            for walk in walks_of(web, 7):
                self.assertEqual(tuple([()] + [(block,) for block in walk[:-1]]), seer_run(web, 1, walk, 3))
                for rooms in (3, 4, 5):
                    run = seer_run(web, rooms, walk, 1)
                    run_moves(self, rooms, walk, run)
                    for at, lot in enumerate(run):
                        if lot:
                            last = {block: max(k for k in range(at) if walk[k] == block) for block in set(walk[:at])}
                            held = sorted(last.values())[-rooms:]
                            self.assertEqual(min(held), last[lot[0]])

    def test_as_few_moves_as_hindsight_exactly_if_enough_is_seen(self):
        for web in [*all_webs(3), *unlike_webs(4)]:
            self.seen_enough(web, (5, 9), 4)
        for web in unlike_webs(5):
            self.seen_enough(web, (7,), 3)

    def seen_enough(self, web, lengths, most):
        needed = ahead_needed(web, 2)
        for ahead in range(most + 1):
            behind = [self.behind(web, walk, ahead) for touches in lengths for walk in walks_of(web, touches)]
            self.assertGreaterEqual(min(behind, default=0), 0)
            if ahead >= needed:
                self.assertEqual(0, max(behind, default=0), (web, ahead))
            elif web[0] < 5:
                self.assertGreater(max(behind), 0, (web, ahead))

    def behind(self, web, walk, ahead):
        return run_moves(self, 2, walk, seer_run(web, 2, walk, ahead)) - least_moves(walk, 2)

    def test_limits(self):
        luck = random.Random(9)
        for web in (whole(40), ring(40), whole(8), ring(8)):
            walk = [0]
            while len(walk) < 400:
                walk.append(luck.choice(sorted(rows_of(web)[walk[-1]])))
            for ahead in (0, 1, 10, 40):
                for rooms in (1, 2, 5):
                    run = self.tell(seer_run, web, rooms, walk, ahead)
                    moves = run_moves(self, rooms, walk, run)
                    self.assertGreaterEqual(moves, least_moves(walk, rooms))
                    if web in (whole(8), ring(8)) and rooms == 2 and ahead >= ahead_needed(web, 2):
                        self.assertEqual(least_moves(walk, rooms), moves)

    def test_order_of_errors(self):
        self.fails(InvalidWeb(-1), seer_run, 0, 0, 0, -1)
        self.fails(InvalidRooms(-1), seer_run, line(3), 0, 0, -1)
        self.fails(InvalidWalk(1), seer_run, line(3), 2, (0, 2), -1)
        self.fails(InvalidSize("ahead"), seer_run, line(3), 2, (0, 1), 41)
        self.fails(InvalidRooms(-1), ahead_needed, line(9), 6)


if __name__ == "__main__":
    unittest.main()
