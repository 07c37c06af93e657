"""Promises 43 and 45."""

import copy
import random
import unittest

from slowshelves.ahead import ahead_needed, seer_run
from slowshelves.errors import InvalidOut, InvalidRooms, InvalidSize, InvalidWeb, Refused
from slowshelves.hider import Hider
from slowshelves.hindsight import far_run, least_moves, run_moves
from tests.support import ANY, Case, all_webs, in_lists, line, ring, rows_of, unlike_webs, whole
from tests.test_ahead import run_moves as moves_by_eye
from tests.wrongs import OBJECTS

STAR = (4, ((0, 1), (0, 2), (0, 3)))
ARMED = (6, ((0, 1), (0, 3), (1, 2), (2, 3), (3, 4), (4, 5)))
TAILED = (7, ((0, 1), (0, 2), (1, 2), (2, 3), (3, 4), (4, 5), (5, 6)))


def unseen(webs, most=6):
    """All (web, rooms, ahead) for which so many touches seen ahead are not enough."""
    for web in webs:
        for rooms in range(2, 6):
            needed = ahead_needed(web, rooms)
            for ahead in range(most + 1 if needed is None else min(needed, most + 1)):
                yield web, rooms, ahead


def last_touch(hider, block):
    return len(hider.walk) - hider.walk[::-1].index(block)


def next_touch(seen, block):
    return seen.index(block) if block in seen else len(seen)


def farthest_known(hider, seen):
    """What is not touched among what is seen goes out, of those what was touched longest ago."""
    return max(hider.memory, key=lambda block: (next_touch(seen, block), -last_touch(hider, block)))


def answers(luck):
    yield lambda hider, seen: hider.memory[0]
    yield lambda hider, seen: hider.memory[-1]
    yield lambda hider, seen: luck.choice(hider.memory)
    yield lambda hider, seen: min(hider.memory, key=lambda block: last_touch(hider, block))
    yield lambda hider, seen: max(hider.memory, key=lambda block: last_touch(hider, block))
    yield farthest_known
    yield lambda hider, seen: max(hider.memory, key=lambda block: (next_touch(seen, block), luck.random()))


class TestHider(Case):
    def play(self, web, rooms, ahead, answer, touches):
        hider = Hider(web, rooms, ahead)
        rows, memory, moves, gains, elder = rows_of(web), set(), 0, [0], None
        for turn in range(touches):
            seen = hider.seen()
            self.assertEqual((seen, ahead + 1, tuple), (hider.seen(), len(seen), type(seen)))
            if elder is not None:
                self.assertEqual(elder[1:], seen[:-1])
            elder = seen
            row = hider.walk[-1:] + seen
            self.assertTrue(all(other in rows[block] for block, other in zip(row, row[1:])))
            full = seen[0] not in memory and len(memory) == rooms
            out = answer(hider, seen) if full else None
            self.assertIsNone(hider.touched(out))
            moves += seen[0] not in memory
            memory = memory - {out} | {seen[0]}
            self.assertEqual((moves, tuple(sorted(memory)), seen[0], turn + 1),
                             (hider.moves, hider.memory, hider.walk[-1], len(hider.walk)))
            gains.append(hider.behind())
            self.assertGreaterEqual(gains[-1], gains[-2])
            if turn < 40 or turn % 9 == 0:
                self.mate(hider, rooms)
        self.mate(hider, rooms)
        self.assertGreaterEqual(hider.moves - least_moves(hider.walk, rooms), hider.behind())
        window = (web[0] + rooms) * (ahead + 2)
        for begin in range(len(gains) - window):
            self.assertGreater(gains[begin + window], gains[begin], (web, rooms, ahead, begin))
        return hider

    def mate(self, hider, rooms):
        run = hider.mate()
        moves = moves_by_eye(self, rooms, hider.walk, run)
        self.assertEqual(hider.moves - hider.behind(), moves)
        if hider.walk:
            self.assertEqual(moves, len(run_moves(hider.walk, rooms, run)))

    def test_all_small_webs(self):
        luck = random.Random(1)
        for web, rooms, ahead in unseen([*all_webs(3), *unlike_webs(4), *unlike_webs(5)], 4):
            window = (web[0] + rooms) * (ahead + 2)
            for answer in answers(luck):
                self.play(web, rooms, ahead, answer, min(2 * window + 9, 110))

    def test_webs_of_six(self):
        luck = random.Random(2)
        for web, rooms, ahead in unseen(list(unlike_webs(6))[::4], 3):
            for answer in (farthest_known, lambda hider, seen: luck.choice(hider.memory)):
                self.play(web, rooms, ahead, answer, 90)

    def test_rings_and_others(self):
        luck = random.Random(3)
        for web, rooms, ahead in unseen([ring(6), ring(7), ring(8), ARMED, TAILED, whole(8)]):
            if ahead in (0, 1, 2, 5, 6):
                for answer in answers(luck):
                    self.play(web, rooms, ahead, answer, min((web[0] + rooms) * (ahead + 2) + 30, 130))

    def test_200_answers(self):
        luck = random.Random(4)
        for web, rooms, ahead in ((whole(8), 2, 5), (whole(8), 4, 6), (ring(8), 3, 6), (ring(8), 2, 0), (whole(7), 2, 4), (whole(40), 5, 40), (ring(40), 4, 6)):
            for answer in (farthest_known, lambda hider, seen: luck.choice(hider.memory)):
                self.play(web, rooms, ahead, answer, 200)

    def test_seers_of_the_document(self):
        """What a seer chooses who knows all that can be known of the two ways."""
        for web, ahead in ((whole(4), 0), (whole(4), 1), (whole(5), 2), (ring(5), 0)):
            hider = Hider(web, 2, ahead)
            for _ in range(60):
                seen = hider.seen()
                full = seen[0] not in hider.memory and len(hider.memory) == 2
                lot = seer_run(web, 2, hider.walk + seen, ahead)[len(hider.walk)]
                # The document's seer has hindsight's choices behind it, so its memory may be another one.
                hider.touched(lot[0] if full and lot and lot[0] in hider.memory else hider.memory[0] if full else None)
            self.assertGreaterEqual(hider.behind(), 60 // ((web[0] + 2) * (ahead + 2)))

    def test_all_ways_to_answer(self):
        for web, rooms, ahead, full in ((whole(4), 2, 0, 8), (whole(4), 2, 1, 8), (whole(5), 2, 2, 7), (ring(5), 2, 0, 8), (STAR, 3, 0, 6), (STAR, 3, 1, 6),
                                        (STAR, 3, 4, 5), (ring(5), 3, 1, 6), (ring(6), 3, 0, 6), (whole(5), 4, 2, 4), (ring(4), 3, 3, 5)):
            self.all_ways(Hider(web, rooms, ahead), rooms, ahead, full)

    def all_ways(self, hider, rooms, ahead, full):
        """Goes on in all ways until so many answers were given."""
        while True:
            before, seen = hider.behind(), hider.seen()
            if seen[0] not in hider.memory and len(hider.memory) == rooms:
                break
            hider.touched(None)
            self.assertEqual(seen[1:], hider.seen()[:-1])
            self.assertGreaterEqual(hider.behind(), before)
        self.mate(hider, rooms)
        if full:
            for out in hider.memory:
                other = copy.deepcopy(hider)
                other.touched(out)
                self.assertGreaterEqual(other.behind(), before)
                self.assertEqual(hider.seen()[1:], other.seen()[:-1])
                self.all_ways(other, rooms, ahead, full - 1)

    def test_worst_answers_looked_for_ahead(self):
        for web, rooms, ahead in ((whole(4), 2, 1), (whole(5), 2, 2), (ring(5), 2, 0), (STAR, 3, 2), (ring(6), 3, 1), (whole(5), 3, 1)):
            self.play(web, rooms, ahead, lambda hider, seen: min(hider.memory, key=lambda out: self.gain_behind(hider, out, 2)), 70)

    def gain_behind(self, hider, out, depth):
        other = copy.deepcopy(hider)
        other.touched(out)
        for _ in range(12):
            if other.seen()[0] not in other.memory:
                break
            other.touched(None)
        else:
            return other.behind(), 0
        if depth == 0:
            return other.behind(), -len(other.walk)
        return min(self.gain_behind(other, choice, depth - 1) for choice in other.memory)

    def test_against_hindsight_of_what_was_told_before(self):
        """One who knows what another hider would do still falls behind."""
        hider = Hider(STAR, 3, 1)
        for _ in range(120):
            seen = hider.seen()
            full = seen[0] not in hider.memory and len(hider.memory) == 3
            guess = far_run(hider.walk + seen, 3)[len(hider.walk)] if full else ()
            hider.touched(guess[0] if guess and guess[0] in hider.memory else hider.memory[0] if full else None)
        self.assertGreaterEqual(hider.behind(), 120 // (7 * 3))

    def test_at_first(self):
        for form in (STAR, in_lists(STAR), (4, [[3, 0], (0, 1), (2, 0), (0, 1)])):
            for hider in (Hider(form, 3, 2), Hider(web=form, rooms=3, ahead=2), Hider(ahead=2, rooms=3, web=form)):
                self.assertEqual(((), (), 0, (), 0), (hider.walk, hider.memory, hider.moves, hider.mate(), hider.behind()))
                self.assertEqual(Hider(STAR, 3, 2).seen(), hider.seen())
                self.assertEqual(3, len(hider.seen()))

    def test_refused_answers_change_nothing(self):
        for web, rooms, ahead in ((STAR, 3, 2), (whole(4), 2, 1), (ring(6), 4, 0)):
            hider = Hider(web, rooms, ahead)
            for _ in range(40):
                full = hider.seen()[0] not in hider.memory and len(hider.memory) == rooms
                outside = [block for block in range(web[0] + 1) if block not in hider.memory]
                before = repr(vars(hider))
                for value in ANY + OBJECTS + (-1, 10 ** 30, True, False, list(hider.memory), (hider.memory or (0,))[:1], web, *outside):
                    good = (type(value) is int and value in hider.memory) if full else value is None
                    if not good:
                        self.fails(InvalidOut(-1), hider.touched, value)
                        self.assertEqual(before, repr(vars(hider)))
                if not full and hider.memory:
                    self.fails(InvalidOut(-1), hider.touched, hider.memory[0])
                if full:
                    self.fails(InvalidOut(-1), hider.touched, None)
                self.assertEqual(before, repr(vars(hider)))
                hider.touched(out=hider.memory[1] if full else None)

    def test_two_hiders_do_not_meet(self):
        one, other = Hider(whole(4), 2, 1), Hider(whole(4), 2, 1)
        for hider in (one, other):
            for _ in range(30):
                full = hider.seen()[0] not in hider.memory and len(hider.memory) == 2
                hider.touched(hider.memory[0] if full else None)
            if hider is one:
                self.assertEqual(((), (), 0, ()), (other.walk, other.memory, other.moves, other.mate()))
        self.assertEqual((one.walk, one.mate(), one.seen()), (other.walk, other.mate(), other.seen()))

    def test_no_length_and_nothing_to_go_through(self):
        hider = Hider(STAR, 3, 0)
        self.assertRaises(TypeError, iter, hider)
        self.assertRaises(TypeError, len, hider)
        for name in ("seen", "touched", "mate", "behind"):
            self.assertIn(name, vars(Hider))

    def test_refused(self):
        self.fails(InvalidWeb(-1), Hider, (41, ()), 0, -1)
        self.fails(InvalidWeb(0), Hider, (4, [(0, 4)]), 0, -1)
        self.fails(InvalidRooms(-1), Hider, STAR, 6, -1)
        self.fails(InvalidRooms(-1), Hider, whole(9), 0, 0)
        self.fails(InvalidSize("ahead"), Hider, line(9), 2, -1)
        self.fails(InvalidSize("ahead"), Hider, STAR, 1, 41)
        self.fails(InvalidSize("ahead"), Hider, STAR, 3, True)
        self.fails(InvalidSize("blocks"), Hider, line(9), 2, 0)
        self.fails(InvalidSize("blocks"), Hider, whole(9), 2, 40)
        self.fails(Refused(-1), Hider, (9, line(8)[1]), 2, 0)
        self.fails(Refused(-1), Hider, whole(9), 1, 0)
        Hider(whole(9), 3, 40)
        for web in [*all_webs(4), ring(8), whole(8), line(40)]:
            for rooms in range(1, 6):
                for ahead in (0, 1, 2, 3, 5, 6, 40):
                    if rooms == 2 and web[0] > 8:
                        continue
                    needed = ahead_needed(web, rooms)
                    if needed is not None and ahead >= needed:
                        self.fails(Refused(-1), Hider, web, rooms, ahead)
                    else:
                        self.assertEqual(ahead + 1, len(Hider(web, rooms, ahead).seen()))


if __name__ == "__main__":
    unittest.main()
