"""Promises 30 and 31."""

import copy
import random
import unittest
from itertools import combinations, product

from slowshelves.calm import calm_holds, is_calm
from slowshelves.endless import Walker, beaten_holds, beaten_walk
from slowshelves.errors import InvalidOut, InvalidRooms, InvalidRule, InvalidSize, InvalidWeb, Refused
from tests.support import (
    ANY, Case, all_webs, bools_within, in_lists, least_moves, line, lists_within, ring, rows_of, unlike_webs, whole,
)
from tests.test_ahead import run_moves
from tests.test_rules import random_table, run_by_eye

STAR = (4, ((0, 1), (0, 2), (0, 3)))
# A ring of four with an arm, and one of five beside a part with a fork.
ARMED = (6, ((0, 1), (0, 3), (1, 2), (2, 3), (3, 4), (4, 5)))
BOTH = (9, ring(5)[1] + ((5, 6), (5, 7), (5, 8)))


def has_fork(web, rooms):
    """Whether some blocks that hang together, one more than rooms, are no line."""
    rows = rows_of(web)
    for lot in combinations(range(web[0]), rooms + 1):
        met = {lot[0]}
        for _ in lot:
            met |= {other for block in met for other in rows[block] if other in lot}
        degrees = [len(rows[block] & set(lot)) for block in lot]
        if len(met) == len(lot) and (sum(degrees) > 2 * rooms or max(degrees) > 2):
            return True
    return False


def unruly():
    for web in [*all_webs(4), *unlike_webs(5), *[ring(many) for many in range(6, 12)], ARMED, BOTH]:
        for rooms in range(2, 6):
            if not is_calm(web, rooms):
                yield web, rooms


class TestWalker(Case):
    def check(self, walker, fork, before):
        web, rooms, touches = walker.web, walker.rooms, len(walker.walk)
        rows = rows_of(web)
        self.assertTrue(all(b in rows[a] for a, b in zip(walker.walk, walker.walk[1:])))
        self.assertGreaterEqual(walker.gained, before)
        self.assertGreaterEqual(walker.gained, (touches - 2 * rooms + 2) // (web[0] + rooms - 2), (web, rooms, walker.walk))
        if fork:
            self.assertGreaterEqual(2 * walker.gained, walker.moves - rooms - 1)

    def mate(self, walker):
        run = walker.mate_run()
        self.assertEqual(walker.moves - walker.gained, run_moves(self, walker.rooms, walker.walk, run))
        self.assertEqual(repr(run), repr(walker.mate_run()))

    def play(self, web, rooms, answer, touches):
        walker = Walker(web, rooms)
        fork = has_fork(web, rooms)
        memory, moves = set(), 0
        for turn in range(touches):
            block = walker.next_block()
            self.assertEqual(block, walker.next_block())
            out = answer(walker, block) if block not in memory and len(memory) == rooms else None
            before = walker.gained
            self.assertIsNone(walker.touched(out))
            moves += block not in memory
            memory = memory - {out} | {block}
            self.assertEqual((moves, tuple(sorted(memory)), block), (walker.moves, walker.memory, walker.walk[-1]))
            self.assertEqual(turn + 1, len(walker.walk))
            self.check(walker, fork, before)
            if turn < 30 or turn % 10 == 0:
                self.mate(walker)
        self.mate(walker)
        self.assertGreaterEqual(walker.moves - walker.gained, least_moves(walker.walk, rooms))
        return walker

    def answers(self, luck):
        def last(walker, block):
            return len(walker.walk) - walker.walk[::-1].index(block)
        yield lambda walker, block: walker.memory[0]
        yield lambda walker, block: walker.memory[-1]
        yield lambda walker, block: luck.choice(walker.memory)
        yield lambda walker, block: min(walker.memory, key=lambda old: last(walker, old))
        yield lambda walker, block: max(walker.memory, key=lambda old: last(walker, old))
        yield lambda walker, block: walker.memory[len(walker.walk) % walker.rooms]

    def test_many_ways_to_answer(self):
        luck = random.Random(3)
        for web, rooms in unruly():
            for answer in self.answers(luck):
                self.play(web, rooms, answer, 90 if web[0] < 5 or web[0] > 6 else 40)

    def test_all_ways_to_answer(self):
        for web, rooms, full in ((whole(3), 2, 9), (ring(4), 2, 9), (ring(5), 2, 8), (STAR, 3, 7), (ring(4), 3, 7), (ring(6), 3, 6), (BOTH, 3, 6)):
            self.all_ways(Walker(web, rooms), has_fork(web, rooms), full)

    def all_ways(self, walker, fork, full):
        """Goes on in all ways until so many answers were given."""
        while True:
            before = walker.gained
            if walker.next_block() not in walker.memory and len(walker.memory) == walker.rooms:
                break
            walker.touched(None)
            self.check(walker, fork, before)
        self.mate(walker)
        if full:
            for out in walker.memory:
                other = copy.deepcopy(walker)
                other.touched(out)
                self.check(other, fork, walker.gained)
                self.all_ways(other, fork, full - 1)

    def test_worst_answers_looked_for_ahead(self):
        """Who answers looks some moves ahead for what gains least."""
        for web, rooms in ((ring(5), 2), (ring(6), 2), (ring(6), 3), (ring(7), 4), (STAR, 3), (whole(4), 3), (whole(4), 2), (ARMED, 2)):
            self.play(web, rooms, lambda walker, block: min(walker.memory, key=lambda out: self.gain_behind(walker, out, 2)), 60)

    def gain_behind(self, walker, out, depth):
        other = copy.deepcopy(walker)
        other.touched(out)
        for _ in range(9):
            if other.next_block() not in other.memory:
                break
            other.touched(None)
        else:
            return other.gained, 0
        if depth == 0:
            return other.gained, -len(other.walk)
        return min(self.gain_behind(other, choice, depth - 1) for choice in other.memory)

    def test_at_first(self):
        for form in (STAR, in_lists(STAR), (4, [[3, 0], (0, 1), (2, 0), (0, 1)])):
            for walker in (Walker(form, 3), Walker(web=form, rooms=3), Walker(rooms=3, web=form)):
                self.assertEqual((STAR, 3, (), (), 0, 0), (
                    walker.web, walker.rooms, walker.walk, walker.memory, walker.moves, walker.gained))
                self.assertEqual((), walker.mate_run())
                self.assertEqual(Walker(STAR, 3).next_block(), walker.next_block())

    def test_later_changes_of_the_web_do_nothing(self):
        links = [[0, 1], [0, 2], [0, 3]]
        walker = Walker([4, links], 3)
        links[0][1] = 3
        links.clear()
        self.assertEqual(STAR, walker.web)
        self.assertEqual(self.play(STAR, 3, lambda walker, block: walker.memory[0], 20).walk[0], walker.next_block())

    def test_wrong_answers_change_nothing(self):
        walker = Walker(STAR, 3)
        for _ in range(30):
            full = walker.next_block() not in walker.memory and len(walker.memory) == 3
            outside = next(block for block in range(5) if block not in walker.memory)
            before = repr(vars(walker))
            for value in ANY + (4, -1, outside, 10 ** 30, True, False, [], list(walker.memory), (walker.memory or (0,))[:1], STAR):
                good = (type(value) is int and value in walker.memory) if full else value is None
                if not good:
                    self.fails(InvalidOut(-1), walker.touched, value)
                    self.assertEqual(before, repr(vars(walker)))
            if not full and walker.memory:
                self.fails(InvalidOut(-1), walker.touched, walker.memory[0])
            walker.touched(out=walker.memory[1] if full else None)

    def test_two_walkers_do_not_meet(self):
        one, other = Walker(ring(5), 2), Walker(ring(5), 2)
        for _ in range(12):
            block = one.next_block()
            one.touched(one.memory[0] if block not in one.memory and len(one.memory) == 2 else None)
        self.assertEqual(((), (), 0, 0), (other.walk, other.memory, other.moves, other.gained))
        for _ in range(12):
            block = other.next_block()
            other.touched(other.memory[0] if block not in other.memory and len(other.memory) == 2 else None)
        self.assertEqual((one.walk, one.mate_run()), (other.walk, other.mate_run()))

    def test_no_length_and_nothing_to_go_through(self):
        walker = Walker(STAR, 3)
        self.assertRaises(TypeError, iter, walker)
        self.assertRaises(TypeError, len, walker)
        for name in ("next_block", "touched", "mate_run"):
            self.assertIn(name, vars(Walker))

    def test_refused(self):
        self.fails(InvalidWeb(-1), Walker, (41, ()), 0)
        self.fails(InvalidWeb(0), Walker, (4, [(0, 4)]), 0)
        self.fails(InvalidRooms(-1), Walker, STAR, 6)
        self.fails(InvalidRooms(-1), Walker, STAR, True)
        for web in [*all_webs(4), line(11)]:
            for rooms in range(1, 6):
                if is_calm(web, rooms):
                    self.fails(Refused(-1), Walker, web, rooms)
                else:
                    Walker(web, rooms)

    def test_great_webs(self):
        luck = random.Random(5)
        for web in (whole(11), ring(11), whole(40), ring(40), (11, ring(10)[1] + ((3, 10),))):
            for rooms in range(2, 6):
                self.play(web, rooms, lambda walker, block: luck.choice(walker.memory), 90)

    def test_a_fork_beside_a_ring_is_taken(self):
        luck = random.Random(7)
        beside = [(BOTH, 3), *[(self.two_parts(ring(many + 2), ring(many + 1)), many) for many in (2, 3, 4, 5)],
                  (self.two_parts(ring(4), whole(3)), 2)]
        for web, rooms in beside:
            length = 5 if web == BOTH else rooms + 2
            self.assertTrue(calm_holds(web, rooms, ("ring", tuple(range(length)))))
            self.assertTrue(has_fork(web, rooms))
            for answer in self.answers(luck):
                self.play(web, rooms, answer, 90)

    def two_parts(self, one, other):
        return one[0] + other[0], one[1] + tuple((a + one[0], b + one[0]) for a, b in other[1])

    def test_small_parts_are_left_aside(self):
        luck = random.Random(8)
        for rooms in (2, 3, 4, 5):
            for other in (ring(rooms + 1), ring(rooms + 2), whole(rooms + 1), ring(6)):
                web = self.two_parts(whole(rooms), other)
                if not is_calm(web, rooms):
                    self.play(web, rooms, lambda walker, block: luck.choice(walker.memory), 60)


class TestBeaten(Case):
    def rules(self, luck, web, rooms):
        return ["last used", "first in", (1, ()), random_table(luck, web, rooms, 2, 12)]

    def test_all_small_webs(self):
        luck = random.Random(6)
        for web, rooms in unruly():
            for rule in self.rules(luck, web, rooms):
                for behind in (1, 2, 9) if web[0] > 4 else range(1, 10):
                    walk, run = paper = beaten_walk(web, rooms, rule, behind)
                    self.assertLessEqual(len(walk), 200)
                    rows = rows_of(web)
                    self.assertTrue(all(b in rows[a] for a, b in zip(walk, walk[1:])))
                    moves = sum(row[0] for row in run_by_eye(rooms, rule, walk))
                    self.assertEqual(moves - behind, run_moves(self, rooms, walk, run))
                    self.assertIs(True, beaten_holds(web, rooms, rule, behind, paper))
                    if behind < 9:
                        self.assertIs(False, beaten_holds(web, rooms, rule, behind + 1, paper))
                    self.assertIs(True, beaten_holds(web, rooms, rule, 1, paper))

    def test_calm_webs_are_refused(self):
        for web in all_webs(4):
            for rooms in range(1, 6):
                if is_calm(web, rooms):
                    self.fails(Refused(-1), beaten_walk, web, rooms, "first in", 1)
                    self.fails(Refused(-1), beaten_holds, web, rooms, "first in", 1, None)

    def test_order_of_errors(self):
        for function, more in ((beaten_walk, ()), (beaten_holds, (((0,), ((),)),))):
            self.fails(InvalidWeb(-1), function, 0, 0, 0, 0, *more)
            self.fails(InvalidRooms(-1), function, line(3), 0, 0, 0, *more)
            self.fails(InvalidRule(-1), function, line(3), 3, 0, 0, *more)
            self.fails(InvalidSize("behind"), function, line(3), 3, "first in", 0, *more)
            self.fails(InvalidSize("behind"), function, STAR, 3, "first in", 10, *more)
            self.fails(Refused(-1), function, line(3), 3, "first in", 9, *more)

    def test_papers_changed(self):
        for web, rooms, rule in ((whole(3), 2, "last used"), (STAR, 3, "first in"), (ring(4), 2, (1, ()))):
            paper = beaten_walk(web, rooms, rule, 1)
            walk, run = paper
            judge = (beaten_holds, web, rooms, rule, 1)
            self.holds(*judge, paper)
            self.refuses_all(*judge)
            for other in lists_within(paper) + bools_within(paper):
                self.fails_to_hold(*judge, other)
            self.fails_to_hold(*judge, (walk, run[:-1]))
            self.fails_to_hold(*judge, (walk[:-1], run))
            self.fails_to_hold(*judge, (walk, run + ((),)))
            self.fails_to_hold(*judge, (walk[:-1], run[:-1]))
            self.fails_to_hold(*judge, paper + ((),))
            self.fails_to_hold(*judge, (walk, tuple(lot[:0] for lot in run)))
            for at in range(len(walk)):
                for block in (-1, web[0], walk[at - 1] if at else None, 10 ** 30):
                    self.fails_to_hold(*judge, (walk[:at] + (block,) + walk[at + 1:], run))
                for lot in ((walk[at],), (0, 1), (-1,), (web[0],), (10 ** 30,), 0, None, "", ((),)):
                    self.fails_to_hold(*judge, (walk, run[:at] + (lot,) + run[at + 1:]))
            for value in ANY:
                self.fails_to_hold(*judge, (value, run))
                self.fails_to_hold(*judge, (walk, value))
                self.fails_to_hold(*judge, (walk, run[:-1] + (value,)) if repr(value) != repr(run[-1]) else None)

    def test_any_walk_and_run_that_are_so(self):
        walk = (0, 1, 2, 0, 1, 2)
        runs = [run for run in product(((), (0,), (1,), (2,)), repeat=6)]
        for run in runs:
            try:
                moves = run_moves(self, 2, walk, run)
            except AssertionError:
                moves = 9
            own = sum(row[0] for row in run_by_eye(2, "last used", walk))
            for behind in (1, 2, 3):
                self.assertIs(own - moves >= behind, beaten_holds(whole(3), 2, "last used", behind, (walk, run)))

    def test_400_touches(self):
        walk = (0, 1, 2) * 133 + (0,)
        run = [(), ()]
        memory = [0, 1]
        for at in range(2, 400):
            if walk[at] in memory:
                run.append(())
                continue
            later = walk[at + 1:]
            out = max(memory, key=lambda block: later.index(block) if block in later else 999)
            memory = [block for block in memory if block != out] + [walk[at]]
            run.append((out,))
        self.holds(beaten_holds, whole(3), 2, "last used", 9, (walk, tuple(run)))
        self.fails_to_hold(beaten_holds, whole(3), 2, "last used", 9, (walk + (1,), tuple(run) + ((),)))


if __name__ == "__main__":
    unittest.main()
