"""Promises 15 to 18, and what 10, 25, 26, 28, 30 and 31 say of hindsight."""

import random
import unittest
from functools import lru_cache
from itertools import combinations, product

from slowshelves.blocks import folded_web
from slowshelves.calm import is_calm
from slowshelves.crowds import crowd_order, crowd_paper, open_run, order_touches
from slowshelves.edits import edit_rows, lists_web
from slowshelves.endless import Walker, beaten_walk
from slowshelves.errors import InvalidGaps, InvalidPrices, InvalidRooms, InvalidRun, InvalidWalk
from slowshelves.gaps import kept_run
from slowshelves.hindsight import (
    beginning_moves, far_run, gap_kinds, hindsight_holds, hindsight_paper, kind_holds, kind_paper, least_moves, price_bound,
    rooms_moves, run_memories, run_moves, touch_depths,
)
from slowshelves.rules import rule_moves
from slowshelves.tracks import folded_walk
from tests import support
from tests.support import ANY, Case, all_webs, bools_within, line, lists_within, ring, unlike_webs, walks_of, whole
from tests.test_gaps import TOUCHES, all_runs, all_touches, gaps_by_eye, room_rows


@lru_cache(maxsize=None)
def fewest_by_eye(touches, rooms):
    """The fewest moves of all runs, by going through all memories; rooms has one number for each moment."""
    memories = {frozenset(): 0}
    for block, most in zip(touches, rooms):
        behind = {}
        for memory, moves in memories.items():
            others = sorted(memory - {block})
            for lot in combinations(others, max(0, len(others) + 1 - most)):
                kept = memory - set(lot) | {block}
                behind[kept] = min(behind.get(kept, 99), moves + (block not in memory))
        memories = behind
    return min(memories.values())


def far_by_eye(touches, rooms):
    memory, run = set(), []
    for at, block in enumerate(touches):
        memory.add(block)
        lot = []
        while len(memory) > rooms[at]:
            later = touches[at + 1:]
            never = [other for other in memory - {block} if other not in later]
            out = max(never) if never else max(memory - {block}, key=later.index)
            memory.remove(out)
            lot.append(out)
        run.append(tuple(sorted(lot)))
    return tuple(run)


def kept_lots(touches, rooms):
    gaps = gaps_by_eye(touches)
    lots = []
    for many in range(len(gaps) + 1):
        for lot in combinations(gaps, many):
            if all(sum(s < at < t for s, t in lot) < rooms[at] for at in range(len(touches))):
                lots.append(lot)
    return lots


def bound_by_eye(touches, rooms, gaps, prices):
    """What no kept lot of these gaps is more than."""
    return sum(rooms[at] - 1 for at in prices) + sum(not any(s < at < t for at in prices) for s, t in gaps)


def some_touches(luck, many, blocks):
    row = [luck.randrange(blocks)]
    while len(row) < many:
        block = luck.randrange(blocks)
        if block != row[-1]:
            row.append(block)
    return tuple(row)


def some_rooms(luck, many):
    rooms = luck.choice([luck.randint(1, 5), [luck.randint(1, 5) for _ in range(many)], [luck.randint(1, 3) for _ in range(many)]])
    return rooms, rooms if isinstance(rooms, list) else [rooms] * many


class TestRuns(Case):
    def test_told(self):
        self.gives(((0,), (0, 1), (0, 1, 2), (0, 1, 2), (0, 1, 2)), run_memories, TOUCHES, 3, ((), (), (), (), ()))
        self.gives(((0,), (0, 1), (1, 2), (0, 1), (0, 1)), run_memories, TOUCHES, 2, ((), (), (0,), (2,), ()))
        self.gives((0, 1, 2, 3), run_moves, TOUCHES, 2, ((), (), (0,), (2,), ()))
        self.gives((0, 1, 2), run_moves, TOUCHES, 3, ((), (), (), (), ()))
        self.gives(((), (), (1,), (), (2,), ()), far_run, (0, 1, 2, 0, 1, 0), 2)
        self.gives(((), (), (1,), (), (2,)), far_run, TOUCHES, 2)
        self.gives(((), (), (0, 1), ()), far_run, (0, 1, 2, 3), (3, 3, 1, 3))
        self.gives(4, least_moves, TOUCHES, 2)
        self.gives(5, least_moves, TOUCHES, 1)
        self.gives(3, least_moves, TOUCHES, (5, 5, 3, 3, 5))
        self.gives(1, least_moves, (7,), 5)

    def test_all_runs(self):
        for touches in all_touches(5, 3):
            for rooms, row in room_rows(touches):
                fewest = 99
                for run, memories in all_runs(touches, row):
                    self.assertEqual(memories, run_memories(touches, rooms, run))
                    moves = tuple(at for at, block in enumerate(touches) if at == 0 or block not in memories[at - 1])
                    self.assertEqual(moves, run_moves(touches, rooms, run))
                    fewest = min(fewest, len(moves))
                self.assertEqual(fewest, fewest_by_eye(touches, row))
                self.assertEqual(fewest, least_moves(touches, rooms))

    def test_far_runs(self):
        for touches in [*all_touches(6, 4), *all_touches(8, 3)]:
            for rooms, row in room_rows(touches):
                run = far_run(touches, rooms)
                self.assertEqual(far_by_eye(touches, row), run)
                self.assertEqual(fewest_by_eye(touches, row), len(run_moves(touches, rooms, run)))
                self.assertEqual(fewest_by_eye(touches, row), least_moves(touches, rooms))

    def test_random_ones(self):
        luck = random.Random(1)
        for _ in range(300):
            touches = some_touches(luck, luck.randint(1, 20), luck.randint(2, 7))
            rooms, row = some_rooms(luck, len(touches))
            self.assertEqual(far_by_eye(touches, row), far_run(touches, rooms))
            self.assertEqual(fewest_by_eye(touches, tuple(row)), least_moves(touches, rooms))

    def test_more_rooms_hold_what_fewer_hold(self):
        luck = random.Random(2)
        rows = [*all_touches(7, 4), *[some_touches(luck, 20, 8) for _ in range(200)]]
        for touches in rows:
            memories = [run_memories(touches, rooms, far_run(touches, rooms)) for rooms in range(1, 6)]
            for fewer, more in zip(memories, memories[1:]):
                self.assertTrue(all(set(one) <= set(other) for one, other in zip(fewer, more)))

    def test_moves_are_moments_less_the_most_kept_gaps(self):
        for touches in all_touches(6, 3):
            for rooms, row in room_rows(touches):
                most = max(len(lot) for lot in kept_lots(touches, row))
                self.assertEqual(len(touches) - most, least_moves(touches, rooms))

    def test_limits(self):
        luck = random.Random(3)
        touches = some_touches(luck, 400, 40)
        for rooms in (1, 2, 5, [luck.randint(1, 5) for _ in touches]):
            run = self.tell(far_run, touches, rooms)
            self.assertEqual(len(self.tell(run_moves, touches, rooms, run)), least_moves(touches, rooms))
        self.assertEqual(support.least_moves(touches, 5), least_moves(touches, 5))
        self.holds(hindsight_holds, touches, 5, hindsight_paper(touches, 5))

    def test_order_of_errors(self):
        self.fails(InvalidWalk(1), run_moves, (0, 0), 0, 7)
        self.fails(InvalidRooms(-1), run_moves, TOUCHES, 6, 7)
        self.fails(InvalidRooms(4), far_run, TOUCHES, (1, 1, 1, 1, 6))
        self.fails(InvalidRun(-1), run_memories, TOUCHES, 5, 7)
        self.fails(InvalidRun(2), run_memories, TOUCHES, 2, ((), (), (), (), ()))
        for function in (far_run, least_moves, hindsight_paper, beginning_moves, gap_kinds):
            self.fails(InvalidWalk(-1), function, (), 6)
            self.fails(InvalidWalk(-1), function, (0, 1) * 200 + (0,), 6)
            self.fails(InvalidWalk(1), function, (0, 40), 6)
            self.fails(InvalidRooms(-1), function, (0, 1), (1, 1, 1))


class TestPrices(Case):
    def test_told(self):
        self.gives(((4, ((0, 3),), (2,))), hindsight_paper, TOUCHES, 2)
        self.gives(4, price_bound, TOUCHES, 2, (2,))
        self.gives(3, price_bound, TOUCHES, 2, [3])
        self.gives(3, price_bound, TOUCHES, 2, ())
        self.gives(3, price_bound, TOUCHES, 2, (3, 2))
        self.gives(-1, price_bound, TOUCHES, 3, (3, 2, 1))
        self.gives((1, (), ()), hindsight_paper, (39,), 3)

    def test_no_bound_is_greater_than_a_run(self):
        for touches in all_touches(5, 3):
            for rooms, row in room_rows(touches):
                fewest = fewest_by_eye(touches, row)
                gaps = gaps_by_eye(touches)
                best = -99
                for many in range(len(touches) + 1):
                    for prices in combinations(range(len(touches)), many):
                        bound = price_bound(touches, rooms, prices[::-1])
                        self.assertEqual(len(touches) - bound_by_eye(touches, row, gaps, prices), bound)
                        best = max(best, bound)
                self.assertEqual(fewest, best)

    def paper(self, touches, rooms, row):
        moves, gaps, prices = paper = hindsight_paper(touches, rooms)
        self.assertTrue(support.is_told(paper))
        self.assertIn(gaps, [gaps] if len(touches) > 8 else kept_lots(touches, row))
        self.assertEqual(len(touches) - len(gaps), moves)
        self.assertEqual(sorted(set(prices)), list(prices))
        self.assertEqual(moves, len(touches) - bound_by_eye(touches, row, gaps_by_eye(touches), prices))
        self.assertEqual(moves, len(run_moves(touches, rooms, kept_run(touches, rooms, gaps))))
        self.assertIs(True, hindsight_holds(touches, rooms, paper))

    def test_papers(self):
        for touches in [*all_touches(6, 4), *all_touches(7, 3)]:
            for rooms, row in room_rows(touches):
                self.paper(touches, rooms, row)
        luck = random.Random(4)
        for _ in range(300):
            touches = some_touches(luck, luck.randint(9, 20), luck.randint(3, 8))
            rooms, row = some_rooms(luck, len(touches))
            self.paper(touches, rooms, row)

    def test_all_triples_of_small_touches(self):
        for touches, rooms in ((TOUCHES, 2), (TOUCHES, 1), ((0, 1, 0, 1, 0), 2), ((0, 1, 2, 0, 1), (1, 3, 2, 1, 3))):
            row = rooms if isinstance(rooms, tuple) else (rooms,) * 5
            gaps, held = gaps_by_eye(touches), 0
            fewest = fewest_by_eye(touches, row)
            for many in range(len(gaps) + 1):
                for lot in combinations(gaps, many):
                    for few in range(6):
                        for prices in combinations(range(5), few):
                            good = lot in kept_lots(touches, row) and len(lot) == 5 - fewest
                            good = good and 5 - bound_by_eye(touches, row, gaps, prices) == fewest
                            self.assertIs(good, hindsight_holds(touches, rooms, (fewest, lot, prices)))
                            self.assertIs(False, hindsight_holds(touches, rooms, (fewest + 1, lot, prices)))
                            held += good
            self.assertGreater(held, 0)

    def test_changed_papers(self):
        touches = (0, 1, 2, 0, 1, 3, 2, 0, 3)
        for rooms in (1, 2, 3, (1, 2, 3, 2, 2, 2, 3, 1, 1)):
            paper = hindsight_paper(touches, rooms)
            moves, gaps, prices = paper
            self.holds(hindsight_holds, touches, rooms, paper)
            self.refuses_all(hindsight_holds, touches, rooms)
            wrong = lists_within(paper) + bools_within(paper) + [paper[:2], paper + ((),), (moves - 1, gaps, prices)]
            wrong += [(moves, gaps[::-1], prices), (moves, gaps, prices[::-1])] if len(gaps) > 1 and len(prices) > 1 else []
            wrong += [(moves, gaps[:-1], prices), (moves, gaps + gaps[-1:], prices), (moves, gaps, prices + (99,))] if gaps else []
            wrong += [(moves, gaps, prices + prices[-1:]), (moves, gaps, prices[:-1])] if prices else []
            wrong += [(moves, gaps[:-1] + ((0, 1),), prices), (moves, gaps, (-1,) + prices), (str(moves), gaps, prices)]
            for value in ANY:
                wrong += [(value, gaps, prices), (moves, value, prices), (moves, gaps, value)]
                wrong += [(moves, gaps[:at] + (value,) + gaps[at + 1:], prices) for at in range(len(gaps))]
                wrong += [(moves, gaps, prices[:at] + (value,) + prices[at + 1:]) for at in range(len(prices))]
            for value in wrong:
                good = repr(value) == repr(paper) or self.by_eye(touches, rooms, value)
                self.assertIs(good, hindsight_holds(touches, rooms, value), value)

    def by_eye(self, touches, rooms, value):
        if not (support.is_told(value) and isinstance(value, tuple) and len(value) == 3 and type(value[0]) is int):
            return False
        row = rooms if isinstance(rooms, tuple) else (rooms,) * len(touches)
        moves, gaps, prices = value
        if repr(gaps) not in [repr(lot) for lot in kept_lots(touches, row)]:
            return False
        if not isinstance(prices, tuple) or not all(type(at) is int and 0 <= at < len(touches) for at in prices):
            return False
        bound = len(touches) - bound_by_eye(touches, row, gaps_by_eye(touches), prices)
        return prices == tuple(sorted(set(prices))) and moves == len(touches) - len(gaps) == bound

    def test_order_of_errors(self):
        self.fails(InvalidWalk(1), price_bound, (0, 0), 0, 7)
        self.fails(InvalidRooms(-1), price_bound, TOUCHES, 0, 7)
        self.fails(InvalidPrices(-1), price_bound, TOUCHES, 1, 7)
        self.fails(InvalidPrices(1), price_bound, TOUCHES, 1, (0, 0))
        self.fails(InvalidPrices(0), price_bound, TOUCHES, 1, (5,))


class TestBeginnings(Case):
    def test_told(self):
        self.gives((1, 2, 3, 3, 4), beginning_moves, TOUCHES, 2)
        self.gives((1, 2, 3, 3, 3), beginning_moves, TOUCHES, 3)
        self.gives((None, None, None, 2, 3), touch_depths, TOUCHES)
        self.gives((5, 4, 3), rooms_moves, TOUCHES)
        self.gives((1,), rooms_moves, (7,))
        self.gives((None,), touch_depths, (7,))
        many = tuple(range(7)) * 2
        self.assertEqual(7, len(self.tell(rooms_moves, many)))
        self.assertEqual(7, rooms_moves(many)[-1])
        self.assertEqual(7, max(depth for depth in touch_depths(many) if depth))

    def depths_by_eye(self, touches):
        blocks = len(set(touches))
        depths = []
        for at, block in enumerate(touches):
            told = None
            for rooms in range(blocks, 0, -1) if block in touches[:at] else ():
                row = (rooms,) * (at + 1)
                if fewest_by_eye(touches[:at + 1], row) == fewest_by_eye(touches[:at], row[1:]):
                    told = rooms
            depths.append(told)
        return tuple(depths)

    def test_all_small_touches(self):
        for touches in [*all_touches(6, 4), *all_touches(8, 3)]:
            for rooms, row in room_rows(touches):
                fewest = tuple(fewest_by_eye(touches[:at], row[:at]) for at in range(1, len(touches) + 1))
                self.assertEqual(fewest, beginning_moves(touches, rooms))
            depths = touch_depths(touches)
            self.assertEqual(self.depths_by_eye(touches), depths)
            blocks = len(set(touches))
            told = rooms_moves(touches)
            self.assertEqual(tuple(fewest_by_eye(touches, (rooms,) * len(touches)) for rooms in range(1, blocks + 1)), told)
            spared = [one - other for one, other in zip(told, told[1:])]
            self.assertTrue(all(one >= other for one, other in zip(spared, spared[1:])))

    def test_depths_tell_all_beginnings(self):
        luck = random.Random(5)
        for _ in range(200):
            touches = some_touches(luck, luck.randint(1, 20), luck.randint(2, 8))
            depths = touch_depths(touches)
            for rooms in range(1, 6):
                told = tuple(sum(depth is None or depth > rooms for depth in depths[:at + 1]) for at in range(len(touches)))
                self.assertEqual(told, beginning_moves(touches, rooms))
            self.assertEqual(tuple(least_moves(touches, rooms) for rooms in range(1, 6))[:len(set(touches))], rooms_moves(touches)[:5])

    def test_one_room_more_at_one_moment(self):
        for touches in all_touches(5, 4):
            for row in product((1, 2), repeat=len(touches)):
                fewest = least_moves(touches, row)
                for at in range(len(touches)):
                    more = row[:at] + (row[at] + 1,) + row[at + 1:]
                    self.assertIn(fewest - least_moves(touches, more), (0, 1))

    def test_limits(self):
        touches = some_touches(random.Random(6), 400, 40)
        self.assertEqual(40, len(self.tell(rooms_moves, touches)))
        self.assertEqual(support.least_moves(touches, 5), self.tell(beginning_moves, touches, 5)[-1])
        self.assertEqual(40, self.tell(touch_depths, touches).count(None))
        for function in (touch_depths, rooms_moves):
            self.fails(InvalidWalk(-1), function, touches + (39 if touches[-1] != 39 else 38,))


class TestKinds(Case):
    def kinds_by_eye(self, touches, row):
        lots = kept_lots(touches, row)
        most = max(len(lot) for lot in lots)
        best = [lot for lot in lots if len(lot) == most]
        return best, tuple(
            "all" if all(gap in lot for lot in best) else "some" if any(gap in lot for lot in best) else "none"
            for gap in gaps_by_eye(touches)
        )

    def test_told(self):
        self.gives(("some", "some"), gap_kinds, TOUCHES, 2)
        self.gives(("all", "all"), gap_kinds, TOUCHES, 3)
        self.gives(("none", "none"), gap_kinds, TOUCHES, 1)
        self.gives((), gap_kinds, (7,), 1)
        self.gives(("full", 1), kind_paper, TOUCHES, 1, (0, 3))
        self.gives(("full", 2), kind_paper, TOUCHES, (3, 3, 1, 1, 3), [0, 3])
        self.gives(("some", ((0, 3),), ((1, 4),)), kind_paper, TOUCHES, 2, (0, 3))
        self.assertEqual("none", self.tell(kind_paper, (0, 1, 2, 1, 2, 0), 2, (0, 5))[0])
        self.assertEqual("all", self.tell(kind_paper, TOUCHES, 3, (0, 3))[0])

    def paper_by_eye(self, touches, row, gap, kind, best, value):
        if value[0] == "full":
            return kind == "none" and gap[0] < value[1] < gap[1] and row[value[1]] == 1
        if value[0] != kind or value[1] not in best:
            return False
        others = [other for other in gaps_by_eye(touches) if other != gap]
        if kind == "some":
            return gap in value[1] and value[2] in best and gap not in value[2]
        if sorted(set(value[2])) != list(value[2]):
            return False
        if kind == "all":
            return bound_by_eye(touches, row, others, value[2]) == len(value[1]) - 1
        if any(row[at] == 1 for at in range(gap[0] + 1, gap[1])):
            return False
        under = [most - (gap[0] < at < gap[1]) for at, most in enumerate(row)]
        return bound_by_eye(touches, under, others, value[2]) <= len(value[1]) - 2

    def check(self, touches, rooms, row):
        best, kinds = self.kinds_by_eye(touches, row)
        self.assertEqual(kinds, gap_kinds(touches, rooms))
        for gap, kind in zip(gaps_by_eye(touches), kinds):
            paper = kind_paper(touches, rooms, gap)
            self.assertTrue(self.paper_by_eye(touches, row, gap, kind, best, paper), (touches, rooms, gap, paper))
            self.assertIs(True, kind_holds(touches, rooms, gap, paper))
            full = [at for at in range(gap[0] + 1, gap[1]) if row[at] == 1]
            self.assertEqual(bool(full), paper[0] == "full")
            if full:
                self.assertEqual(full[0], paper[1])

    def test_all_lots(self):
        for touches in [*all_touches(6, 3), *all_touches(5, 4)]:
            for rooms, row in room_rows(touches):
                self.check(touches, rooms, row)
        luck = random.Random(7)
        for _ in range(120):
            touches = some_touches(luck, luck.randint(7, 13), luck.randint(3, 6))
            rooms, row = some_rooms(luck, len(touches))
            self.check(touches, rooms, row)

    def test_limits(self):
        luck = random.Random(8)
        for _ in range(60):
            touches = some_touches(luck, 20, luck.randint(3, 8))
            rooms, _ = some_rooms(luck, 20)
            kinds = self.tell(gap_kinds, touches, rooms)
            for gap, kind in zip(gaps_by_eye(touches), kinds):
                paper = self.tell(kind_paper, touches, rooms, gap)
                self.assertEqual(kind, {"full": "none"}.get(paper[0], paper[0]))
                self.holds(kind_holds, touches, rooms, gap, paper)
        touches = some_touches(luck, 400, 40)
        self.assertEqual(360, len(gap_kinds(touches, 5)))

    def test_all_papers_of_small_touches(self):
        shapes = (((0, 1, 0, 1, 0), 2), ((0, 1, 2, 0, 1), 2), ((0, 1, 2, 1, 0), 2), ((0, 1, 2, 1, 2, 0), 2), (TOUCHES, (3, 3, 1, 2, 2)))
        for touches, rooms in shapes:
            row = rooms if isinstance(rooms, tuple) else (rooms,) * len(touches)
            best, kinds = self.kinds_by_eye(touches, row)
            gaps = gaps_by_eye(touches)
            lots = [lot for many in range(len(gaps) + 1) for lot in combinations(gaps, many)]
            prices = [lot for many in range(4) for lot in combinations(range(len(touches)), many)]
            for gap, kind in zip(gaps, kinds):
                values = [("full", at) for at in range(-1, len(touches) + 1)]
                values += [(word, one, other) for word in ("all", "some", "none") for one in lots for other in prices + lots]
                for value in values:
                    if value[0] != "full" and value[2] in lots and value[0] != "some" and value[2]:
                        good = False
                    elif value[0] == "some" and value[2] in prices and value[2]:
                        good = False
                    else:
                        good = self.paper_by_eye(touches, row, gap, kind, best, value)
                    self.assertIs(good, kind_holds(touches, rooms, gap, value), (touches, rooms, gap, value))

    def test_changed_papers(self):
        shapes = ((TOUCHES, 1, (0, 3)), (TOUCHES, 2, (0, 3)), (TOUCHES, 3, (0, 3)), ((0, 1, 2, 1, 2, 0), 2, (0, 5)),
                  ((0, 1, 2, 1, 2, 0, 3, 0), 2, (5, 7)))
        kinds = []
        for touches, rooms, gap in shapes:
            paper = kind_paper(touches, rooms, gap)
            kinds.append(paper[0])
            self.holds(kind_holds, touches, rooms, gap, paper)
            self.refuses_all(kind_holds, touches, rooms, gap)
            wrong = lists_within(paper) + bools_within(paper) + [paper[:1], paper + ((),), paper[:-1], (paper,)]
            wrong += [(word,) + paper[1:] for word in ANY + ("some", "none", "full", "kept") if word != paper[0]]
            wrong += [paper[:at] + (value,) + paper[at + 1:] for at in range(1, len(paper)) for value in ANY]
            if len(paper) == 3:
                wrong += [(paper[0], paper[1][:-1], paper[2]), (paper[0], paper[1] + paper[1][-1:], paper[2])]
                wrong += [(paper[0], paper[1], paper[2] + paper[2][-1:] if paper[2] else ((0, 3), (0, 3)))]
            row = (rooms,) * len(touches)
            best, told = self.kinds_by_eye(touches, row)
            for value in wrong:
                good = repr(value) == repr(paper)
                if not good and support.is_told(value) and isinstance(value, tuple) and len(value) == len(paper) and value[0] == paper[0]:
                    good = self.loosely(touches, row, gap, told[gaps_by_eye(touches).index(gap)], best, value)
                self.assertIs(good, kind_holds(touches, rooms, gap, value), value)
        self.assertEqual({"full", "some", "all", "none"}, set(kinds))

    def loosely(self, touches, row, gap, kind, best, value):
        """As by eye, of any values."""
        moments = range(len(touches))
        if value[0] == "full":
            return type(value[1]) is int and value[1] in moments and self.paper_by_eye(touches, row, gap, kind, best, value)
        if repr(value[1]) not in [repr(lot) for lot in best]:
            return False
        if kind == "some":
            return repr(value[2]) in [repr(lot) for lot in best] and self.paper_by_eye(touches, row, gap, kind, best, value)
        if not isinstance(value[2], tuple) or not all(type(at) is int and at in moments for at in value[2]):
            return False
        return self.paper_by_eye(touches, row, gap, kind, best, value)

    def test_order_of_errors(self):
        for function, more in ((kind_paper, ()), (kind_holds, (None,))):
            self.fails(InvalidWalk(1), function, (0, 0), 0, 7, *more)
            self.fails(InvalidRooms(-1), function, TOUCHES, 0, 7, *more)
            self.fails(InvalidGaps(-1), function, TOUCHES, 1, 7, *more)
            self.fails(InvalidGaps(-1), function, TOUCHES, 1, (0, 4), *more)
            self.fails(InvalidGaps(-1), function, (7,), 1, (0, 0), *more)


class TestElsewhere(Case):
    def folds(self, many):
        for fold in product(range(many), repeat=many):
            if set(fold) == set(range(max(fold) + 1)):
                yield fold

    def test_joining_never_costs_a_move(self):
        for web, touches in [*[(web, 6) for web in all_webs(3)], *[(web, 5) for web in unlike_webs(4)]]:
            for fold in self.folds(web[0]):
                folded_web(web, fold)
                for length in (touches - 1, touches):
                    for walk in walks_of(web, length):
                        folded = folded_walk(web, fold, walk)
                        for rooms in (1, 2, 3):
                            self.assertLessEqual(least_moves(folded, rooms), least_moves(walk, rooms))

    def test_joining_on_longer_walks(self):
        luck = random.Random(9)
        for web in (whole(6), ring(8), line(7)):
            rows = support.rows_of(web)
            for _ in range(120):
                walk = [luck.randrange(web[0])]
                while len(walk) < 40:
                    walk.append(luck.choice(sorted(rows[walk[-1]])))
                fold = [luck.randrange(web[0]) for _ in range(web[0])]
                numbers = {block: at for at, block in enumerate(sorted(set(fold)))}
                folded = folded_walk(web, [numbers[block] for block in fold], walk)
                for rooms in range(1, 6):
                    self.assertLessEqual(least_moves(folded, rooms), least_moves(walk, rooms))

    def test_on_calm_webs_last_used_is_never_behind(self):
        for web in [*all_webs(3), *unlike_webs(4), *unlike_webs(5)]:
            for rooms in range(1, 6):
                if is_calm(web, rooms):
                    for walk in walks_of(web, 6 if web[0] == 5 else 7):
                        self.assertEqual(least_moves(walk, rooms), rule_moves(rooms, "last used", walk))

    def test_walkers_gain_on_hindsight(self):
        luck = random.Random(10)
        for web, rooms in ((whole(3), 2), (ring(5), 3), (ring(6), 2), (whole(5), 4), ((4, ((0, 1), (0, 2), (0, 3))), 3)):
            walker = Walker(web, rooms)
            for _ in range(90):
                full = walker.next_block() not in walker.memory and len(walker.memory) == rooms
                walker.touched(luck.choice(walker.memory) if full else None)
                self.assertGreaterEqual(walker.moves - walker.gained, least_moves(walker.walk, rooms))
            moves = len(run_moves(walker.walk, rooms, walker.mate_run()))
            self.assertEqual(walker.moves - walker.gained, moves)
            for rule in ("last used", "first in", (1, ())):
                walk, run = beaten_walk(web, rooms, rule, 3)
                self.assertEqual(3, rule_moves(rooms, rule, walk) - len(run_moves(walk, rooms, run)))
                self.assertGreaterEqual(rule_moves(rooms, rule, walk) - least_moves(walk, rooms), 3)

    def test_crowds(self):
        """Enough rooms move each block once on all orders; with fewer, on some order hindsight moves one twice."""
        for rows in (((0, 1, 2), (1, 0)), ((0, 1, 0), (1, 2, 1)), ((0, 1), (2, 0), (1, 2)), ((0, 0, 1), (1, 0, 2))):
            enough = crowd_paper(rows)[0]
            numbers = [number for number, row in enumerate(rows) for _ in row]
            for order in set(self.orders(numbers)):
                touches = order_touches(rows, order)
                self.assertEqual(len(set(touches)), least_moves(touches, enough))
                outs = open_run(rows, enough, order)
                run = tuple(() if out == -1 else (out,) for out in outs)
                self.assertEqual(len(set(touches)), len(run_moves(touches, enough, run)))
            for rooms in range(1, enough):
                touches = order_touches(rows, crowd_order(rows, rooms))
                self.assertGreater(least_moves(touches, rooms), len(set(touches)))

    def orders(self, numbers):
        if not numbers:
            yield ()
        for number in set(numbers):
            left = list(numbers)
            left.remove(number)
            for order in self.orders(left):
                yield (number,) + order

    def test_lists_are_calm(self):
        lists = (((5, 3), (7, 4), (1, 2)), (), ((2, 1), (3, 3)))
        web = lists_web(lists)
        self.assertEqual((5, ((0, 1), (1, 2), (3, 4))), web)
        edit_rows(lists, ("put", 0, 1))
        for rooms in range(1, 6):
            self.assertIs(True, is_calm(web, rooms))
            for walk in walks_of(web, 9):
                self.assertEqual(least_moves(walk, rooms), rule_moves(rooms, "last used", walk))


if __name__ == "__main__":
    unittest.main()
