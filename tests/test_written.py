"""Promise 19."""

import random
import unittest
from itertools import combinations, product

from slowshelves.errors import InvalidPrices, InvalidRooms, InvalidRun, InvalidSize, InvalidWalk, InvalidWeights, InvalidWrites, Refused
from slowshelves.gaps import kept_run
from slowshelves.hindsight import least_moves
from slowshelves.rules import rule_moves, rule_run
from slowshelves.tracks import need_walk
from slowshelves.written import (
    even_holds, even_paper, toll_bound, weighed_holds, weighed_paper, writes_bound, written_cost, written_paper,
)
from tests import support
from tests.support import ANY, Case, bools_within, line, lists_within
from tests.test_gaps import TOUCHES, all_runs, all_touches, gaps_by_eye, room_rows
from tests.test_hindsight import kept_lots, some_rooms, some_touches


def bound_by_eye(touches, row, weights, tolls):
    weights = dict(weights)
    bound = sum(weights[block] for block in touches) - sum(toll * (most - 1) for toll, most in zip(tolls, row))
    for s, t in gaps_by_eye(touches):
        bound -= max(0, weights[touches[s]] - sum(tolls[s + 1:t]))
    return bound


def cost_by_eye(touches, weights, gaps):
    return sum(dict(weights)[block] for at, block in enumerate(touches) if at not in [t for _, t in gaps])


def least_weighed(touches, row, weights):
    """The least cost of all runs, by going through all memories."""
    weights = dict(weights)
    memories = {frozenset(): 0}
    for block, most in zip(touches, row):
        behind = {}
        for memory, cost in memories.items():
            others = sorted(memory - {block})
            for lot in combinations(others, max(0, len(others) + 1 - most)):
                kept = memory - set(lot) | {block}
                paid = cost + (weights[block] if block not in memory else 0)
                behind[kept] = min(behind.get(kept, 10 ** 9), paid)
        memories = behind
    return min(memories.values())


def written_by_eye(touches, writes, run):
    """What a run costs, looked at block by block in memory."""
    cost, wrote = 0, {}
    for at, (block, lot) in enumerate(zip(touches, run)):
        cost += block not in wrote
        wrote[block] = wrote.get(block, False) or at in writes
        for out in lot:
            cost += wrote.pop(out)
    return cost + sum(wrote.values())


def least_written(touches, row, writes):
    """The least cost of all runs, by going through all memories of blocks written or not."""
    memories = {frozenset(): 0}
    for at, (block, most) in enumerate(zip(touches, row)):
        behind = {}
        for memory, cost in memories.items():
            inside = dict(memory)
            others = sorted(set(inside) - {block})
            for lot in combinations(others, max(0, len(others) + 1 - most)):
                kept = {other: inside[other] for other in others if other not in lot}
                kept[block] = inside.get(block, False) or at in writes
                paid = cost + (block not in inside) + sum(inside[other] for other in lot)
                key = frozenset(kept.items())
                behind[key] = min(behind.get(key, 10 ** 9), paid)
        memories = behind
    return min(cost + sum(wrote for _, wrote in memory) for memory, cost in memories.items())


def writes_by_eye(touches, row, writes, tolls):
    total = -sum(toll * (most - 1) for toll, most in zip(tolls, row))
    for block in set(touches):
        moments = [at for at, other in enumerate(touches) if other == block]
        costs = []
        for chosen in product((0, 1), repeat=len(moments) - 1):
            stretches, cost = [[moments[0]]], 0
            for keep, s, t in zip(chosen, moments, moments[1:]):
                if keep:
                    cost += sum(tolls[s + 1:t])
                    stretches[-1].append(t)
                else:
                    stretches.append([t])
            costs.append(cost + sum(1 + any(at in writes for at in stretch) for stretch in stretches))
        total += min(costs)
    return total


def some_weights(luck, touches):
    weights = [(block, luck.randint(1, 9)) for block in set(touches)]
    luck.shuffle(weights)
    return tuple(weights)


class TestWeights(Case):
    def test_told(self):
        weights = ((0, 5), (1, 2), (2, 1))
        self.assertEqual((5 + 2 + 1 + 2, ((0, 3),)), self.tell(weighed_paper, TOUCHES, 2, weights)[:2])
        self.gives(15 - 2 - 3, toll_bound, TOUCHES, 2, weights, (0, 0, 2, 0, 0))
        self.gives(15 - 5 - 2, toll_bound, TOUCHES, 2, weights, (0, 0, 0, 0, 0))
        self.gives(15 - 3 * 10 ** 6, toll_bound, TOUCHES, 4, weights, (0, 0, 10 ** 6, 0, 0))
        self.gives((9, (), (0,)), weighed_paper, (3,), 5, ((3, 9),))
        self.assertEqual((15, ()), self.tell(weighed_paper, TOUCHES, 1, weights[::-1])[:2])

    def paper(self, touches, rooms, row, weights):
        cost, gaps, tolls = paper = weighed_paper(touches, rooms, weights)
        self.assertTrue(support.is_told(paper))
        if len(touches) < 9:
            self.assertIn(gaps, kept_lots(touches, row))
        kept_run(touches, rooms, gaps)
        self.assertEqual(sorted(gaps), list(gaps))
        self.assertTrue(len(tolls) == len(touches) and all(toll >= 0 for toll in tolls))
        self.assertEqual(cost, cost_by_eye(touches, weights, gaps))
        self.assertEqual(cost, bound_by_eye(touches, row, weights, tolls))
        self.assertEqual(cost, toll_bound(touches, rooms, weights, tolls))
        self.assertEqual(cost, least_weighed(touches, row, weights))
        self.assertIs(True, weighed_holds(touches, rooms, weights, paper))

    def test_all_small_touches(self):
        luck = random.Random(1)
        for touches in [*all_touches(6, 3), *all_touches(5, 4)]:
            for rooms, row in list(room_rows(touches))[::1 if len(touches) < 5 else 5]:
                self.paper(touches, rooms, row, some_weights(luck, touches))
                self.paper(touches, rooms, row, tuple((block, 1) for block in sorted(set(touches))))

    def test_alike_weights_are_hindsight(self):
        for touches in all_touches(6, 4):
            weights = tuple((block, 1) for block in sorted(set(touches)))
            for rooms in (2, 3):
                self.assertEqual(least_moves(touches, rooms), weighed_paper(touches, rooms, weights)[0])

    def test_limits(self):
        luck = random.Random(2)
        for _ in range(150):
            touches = some_touches(luck, luck.randint(9, 20), luck.randint(2, 8))
            rooms, row = some_rooms(luck, len(touches))
            self.paper(touches, rooms, row, some_weights(luck, touches))
        touches = some_touches(luck, 400, 40)
        paper = self.tell(weighed_paper, touches, 5, some_weights(random.Random(3), touches))
        self.holds(weighed_holds, touches, 5, some_weights(random.Random(3), touches), paper)

    def test_no_bound_is_greater_than_a_cost(self):
        luck = random.Random(4)
        for touches in all_touches(5, 3):
            weights = some_weights(luck, touches)
            for rooms, row in ((1, (1,) * 5), (2, (2,) * 5), ((1, 3, 2, 2, 1)[:len(touches)], (1, 3, 2, 2, 1))):
                least = least_weighed(touches, row, weights)
                for tolls in product((0, 1, 3), repeat=len(touches)):
                    told = toll_bound(touches, rooms, weights, tolls)
                    self.assertEqual(bound_by_eye(touches, row, weights, tolls), told)
                    self.assertLessEqual(told, least)

    def test_all_triples_of_small_touches(self):
        touches, weights = (0, 1, 2, 0, 1), ((2, 1), (0, 2), (1, 2))
        gaps = gaps_by_eye(touches)
        for rooms, row in ((2, (2,) * 5), ((1, 3, 2, 1, 3), (1, 3, 2, 1, 3))):
            least, held = least_weighed(touches, row, weights), 0
            for many in range(len(gaps) + 1):
                for lot in combinations(gaps, many):
                    for tolls in product((0, 1, 2), repeat=5):
                        good = lot in kept_lots(touches, row)
                        good = good and least == cost_by_eye(touches, weights, lot) == bound_by_eye(touches, row, weights, tolls)
                        self.assertIs(good, weighed_holds(touches, rooms, weights, (least, lot, tolls)))
                        held += good
            self.assertGreater(held, 0)

    def test_changed_papers(self):
        touches = (0, 1, 2, 0, 1, 3, 2, 0, 3)
        weights = ((3, 2), (0, 9), (1, 4), (2, 1))
        for rooms in (1, 2, 3, (1, 2, 3, 2, 2, 2, 3, 1, 1)):
            cost, gaps, tolls = paper = weighed_paper(touches, rooms, weights)
            judge = (weighed_holds, touches, rooms, weights)
            self.holds(*judge, paper)
            self.refuses_all(*judge)
            wrong = lists_within(paper) + bools_within(paper) + [paper[:2], paper + ((),), (cost + 1, gaps, tolls), (cost - 1, gaps, tolls)]
            wrong += [(cost, gaps, tolls[:-1]), (cost, gaps, tolls + (0,)), (cost, gaps, tolls[:-1] + (-1,)), (str(cost), gaps, tolls)]
            wrong += [(cost, gaps[::-1], tolls)] if len(gaps) > 1 else []
            wrong += [(cost, gaps[:-1], tolls), (cost, gaps + gaps[-1:], tolls), (cost, gaps[:-1] + ((0, 1),), tolls)] if gaps else []
            for value in ANY:
                wrong += [(value, gaps, tolls), (cost, value, tolls) if repr(value) != repr(gaps) else None, (cost, gaps, value)]
                wrong += [(cost, gaps[:at] + (value,) + gaps[at + 1:], tolls) for at in range(len(gaps))]
                if type(value) is not int:
                    wrong += [(cost, gaps, tolls[:at] + (value,) + tolls[at + 1:]) for at in range(len(tolls))]
            for value in wrong:
                self.assertIs(False, weighed_holds(touches, rooms, weights, value), value)

    def test_order_of_errors(self):
        self.fails(InvalidWalk(1), toll_bound, (0, 0), 0, 0, 0)
        self.fails(InvalidRooms(-1), toll_bound, TOUCHES, 0, 0, 0)
        self.fails(InvalidWeights(-1), toll_bound, TOUCHES, 1, ((0, 1), (1, 1)), 0)
        self.fails(InvalidWeights(2), toll_bound, TOUCHES, 1, ((0, 1), (1, 1), (0, 1)), 0)
        self.fails(InvalidPrices(-1), toll_bound, TOUCHES, 1, ((0, 1), (1, 1), (2, 1)), (0,) * 4)
        self.fails(InvalidPrices(4), toll_bound, TOUCHES, 1, ((0, 1), (1, 1), (2, 1)), (0, 0, 0, 0, -1))
        for function, more in ((weighed_paper, ()), (weighed_holds, (0,))):
            self.fails(InvalidWalk(-1), function, (), 0, 0, *more)
            self.fails(InvalidRooms(1), function, TOUCHES, (1, 6, 1, 1, 1), 0, *more)
            self.fails(InvalidWeights(0), function, TOUCHES, 1, ((0, 10), (0, 0), 0), *more)


class TestWrites(Case):
    def test_told(self):
        run = ((), (), (0,), (2,), ())
        self.gives(4, written_cost, TOUCHES, 2, (), run)
        self.gives(5, written_cost, TOUCHES, 2, (0,), run)
        self.gives(5, written_cost, TOUCHES, 2, [3], run)
        self.gives(6, written_cost, TOUCHES, 2, (3, 0), run)
        self.gives(6, written_cost, TOUCHES, 2, (3, 0), run)
        self.gives(7, written_cost, TOUCHES, 2, (1, 4, 3, 0), run)
        self.gives(3 + 3, written_cost, TOUCHES, 3, (0, 1, 2, 3, 4), ((),) * 5)
        self.gives((1, ((),)), written_paper, (3,), 2, ())
        self.gives((2, ((),)), written_paper, (3,), 2, (0,))
        self.gives((2, ((),), (0,)), even_paper, (3,), 2, (0,))

    def test_all_runs(self):
        for touches in [*all_touches(4, 3), *list(all_touches(5, 3))[-48::5]]:
            for rooms, row in room_rows(touches):
                runs = [run for run, _ in all_runs(touches, row)]
                for writes in product((0, 1), repeat=len(touches)):
                    writes = tuple(at for at, write in enumerate(writes) if write)[::-1]
                    costs = [written_cost(touches, rooms, writes, run) for run in runs] if len(touches) < 5 else []
                    for run, cost in zip(runs, costs):
                        self.assertEqual(written_by_eye(touches, writes, run), cost)
                    cost, run = written_paper(touches, rooms, writes)
                    self.assertIn(run, runs)
                    self.assertEqual(cost, written_by_eye(touches, writes, run))
                    self.assertEqual(min(written_by_eye(touches, writes, other) for other in runs), cost)

    def test_limits(self):
        luck = random.Random(5)
        for _ in range(60):
            touches = some_touches(luck, 20, luck.randint(2, 8))
            rooms, row = some_rooms(luck, 20)
            writes = tuple(luck.sample(range(20), luck.randint(0, 20)))
            cost, run = self.tell(written_paper, touches, rooms, writes)
            self.assertEqual(cost, written_cost(touches, rooms, writes, run))
            self.assertEqual(cost, written_by_eye(touches, writes, run))
            self.assertEqual(least_written(touches, row, writes), cost)
            for tolls in ((0,) * 20, tuple(luck.randint(0, 2) for _ in range(20)), tuple(luck.randint(0, 10 ** 6) for _ in range(20))):
                told = self.tell(writes_bound, touches, rooms, writes, tolls)
                self.assertLessEqual(told, cost)
        self.fails(InvalidSize("blocks"), written_paper, tuple(range(9)), 1, ())
        self.assertEqual(8, written_paper(tuple(range(8)), 1, ())[0])

    def test_bounds(self):
        luck = random.Random(6)
        for touches in all_touches(5, 3):
            for writes in ((), (0,), (1, 3), (4, 0), (0, 1, 2, 3, 4)):
                writes = tuple(at for at in writes if at < len(touches))
                for rooms, row in ((1, (1,) * 5), (2, (2,) * 5), ((1, 3, 2, 2, 1)[:len(touches)], (1, 3, 2, 2, 1))):
                    least = written_paper(touches, rooms, writes)[0]
                    for tolls in luck.sample(list(product((0, 1, 3), repeat=len(touches))), 3):
                        told = writes_bound(touches, rooms, writes, tolls)
                        self.assertEqual(writes_by_eye(touches, row, writes, tolls), told)
                        self.assertLessEqual(told, least)

    def even_writes(self, touches):
        blocks = sorted(set(touches))
        for many in range(len(blocks) + 1):
            for writing in combinations(blocks, many):
                yield tuple(at for at, block in enumerate(touches) if block in writing)

    def even(self, touches, rooms, row, writes):
        cost, run, tolls = paper = even_paper(touches, rooms, writes)
        self.assertTrue(support.is_told(paper))
        self.assertEqual(cost, written_by_eye(touches, writes, run))
        self.assertEqual(cost, written_cost(touches, rooms, writes, run))
        self.assertEqual(cost, writes_by_eye(touches, row, writes, tolls))
        self.assertTrue(all(toll >= 0 for toll in tolls))
        self.assertEqual(cost, written_paper(touches, rooms, writes)[0])
        self.assertIs(True, even_holds(touches, rooms, writes, paper))

    def test_even_papers(self):
        for touches in [*all_touches(5, 3), *list(all_touches(6, 4))[::11]]:
            for rooms, row in list(room_rows(touches))[::1 if len(touches) < 5 else 7]:
                for writes in self.even_writes(touches):
                    self.even(touches, rooms, row, writes)
        luck = random.Random(7)
        for _ in range(40):
            touches = some_touches(luck, 20, luck.randint(3, 8))
            rooms, row = some_rooms(luck, 20)
            self.even(touches, rooms, row, luck.choice(list(self.even_writes(touches))))

    def test_uneven_writes_are_refused(self):
        for touches in all_touches(4, 3):
            for writes in product((0, 1), repeat=len(touches)):
                writes = tuple(at for at, write in enumerate(writes) if write)
                uneven = [block for block in sorted(set(touches))
                          if len({at in writes for at, other in enumerate(touches) if other == block}) == 2]
                if uneven:
                    self.fails(Refused(uneven[0]), even_paper, touches, 2, writes)
                    self.fails(Refused(uneven[0]), even_holds, touches, 2, writes, None)
                else:
                    even_paper(touches, 2, writes)

    def test_bounds_can_stay_below_all_runs(self):
        touches, writes = (1, 0, 2, 3, 2, 0, 2, 3), (1, 2, 3, 5, 6, 7)
        self.gives(11, lambda touches: written_paper(touches, 2, writes)[0], touches)
        bounds = [writes_bound(touches, 2, writes, (0,) + tolls + (0,)) for tolls in product(range(3), repeat=6)]
        self.assertEqual(10, max(bounds))

    def test_last_used_may_cost_more_along_a_line(self):
        walk, writes = (0, 1, 2, 1, 0, 1, 0, 1, 0), (0, 6, 7)
        self.assertEqual(walk, need_walk(line(3), walk))
        run = tuple(() if out == -1 else (out,) for _, out, _ in rule_run(2, "last used", walk))
        self.assertEqual(least_moves(walk, 2), rule_moves(2, "last used", walk))
        self.gives(7, written_cost, walk, 2, writes, run)
        self.assertEqual(6, written_paper(walk, 2, writes)[0])

    def test_changed_papers(self):
        touches, writes = (0, 1, 2, 0, 1, 3, 2, 0, 3), (8, 1, 5, 4)
        for rooms in (1, 2, 3, (1, 2, 3, 2, 2, 2, 3, 1, 1)):
            cost, run, tolls = paper = even_paper(touches, rooms, writes)
            judge = (even_holds, touches, rooms, writes)
            self.holds(*judge, paper)
            self.refuses_all(*judge)
            wrong = lists_within(paper) + bools_within(paper) + [paper[:2], paper + ((),), (cost + 1, run, tolls), (cost - 1, run, tolls)]
            wrong += [(cost, run, tolls[:-1]), (cost, run, tolls + (0,)), (cost, run, tolls[:-1] + (-1,)), (str(cost), run, tolls)]
            wrong += [(cost, run[:-1], tolls), (cost, run + ((),), tolls), (cost, (), tolls)]
            for value in ANY:
                wrong += [(value, run, tolls), (cost, value, tolls), (cost, run, value)]
                wrong += [(cost, run[:at] + (value,) + run[at + 1:], tolls) for at in range(len(run)) if repr(value) != repr(run[at])]
                if type(value) is not int:
                    wrong += [(cost, run, tolls[:at] + (value,) + tolls[at + 1:]) for at in range(len(tolls))]
            for value in wrong:
                good = self.by_eye(touches, rooms, writes, value)
                self.assertIs(good, even_holds(touches, rooms, writes, value), value)

    def by_eye(self, touches, rooms, writes, value):
        """A changed lot may be another run that costs as little."""
        row = rooms if isinstance(rooms, tuple) else (rooms,) * len(touches)
        if not support.is_told(value) or not isinstance(value, tuple) or len(value) != 3 or type(value[0]) is not int:
            return False
        if repr(value[1]) not in [repr(run) for run, _ in all_runs(touches, row)]:
            return False
        tolls = value[2]
        if not isinstance(tolls, tuple) or len(tolls) != len(touches) or not all(type(toll) is int and toll >= 0 for toll in tolls):
            return False
        return value[0] == written_by_eye(touches, writes, value[1]) == writes_by_eye(touches, row, writes, tolls)

    def test_order_of_errors(self):
        for function, more in ((written_cost, (0,)), (written_paper, ()), (writes_bound, (0,)), (even_paper, ()), (even_holds, (0,))):
            nine = tuple(range(9)) + (0,)
            self.fails(InvalidWalk(1), function, (0, 0), 0, 0, *more)
            self.fails(InvalidRooms(-1), function, nine, 0, 0, *more)
            self.fails(InvalidRooms(-1), function, nine, (1,) * 9, 0, *more)
            self.fails(InvalidWrites(-1), function, nine, 1, 0, *more)
            self.fails(InvalidWrites(1), function, nine, 1, (0, 0, True), *more)
            self.fails(InvalidWrites(0), function, nine, 1, (10, 0, 0), *more)
        self.fails(InvalidRun(-1), written_cost, TOUCHES, 1, (0,), 0)
        self.fails(InvalidPrices(-1), writes_bound, TOUCHES, 1, (0,), 0)
        self.fails(InvalidPrices(3), writes_bound, TOUCHES, 1, (0,), (0, 0, 0, None, True))
        self.fails(InvalidSize("blocks"), written_paper, nine, 1, (0,))
        self.fails(Refused(0), even_paper, nine, 1, (0,))


if __name__ == "__main__":
    unittest.main()
