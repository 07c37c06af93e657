"""Promises 21 to 23."""

import random
import unittest
from itertools import combinations, product
from math import factorial

from slowshelves.calm import is_calm
from slowshelves.errors import InvalidRooms, InvalidRule, InvalidSize, InvalidWalk, InvalidWeb
from slowshelves.rules import (
    alike_holds, alike_paper, move_machine, need_rule, rule_moves, rule_run, rule_slip, rule_table, slip_walk,
)
from tests.support import (
    ANY, Case, all_webs, bools_within, least_moves, line, lists_within, parts_of, ring, rows_of, unlike_webs,
    walks_of, whole,
)

WORDS = ("last used", "first in")


STAR = (4, ((0, 1), (0, 2), (0, 3)))


def run_by_eye(rooms, rule, walk):
    """What the rule does, told by looking back at all touches each time."""
    memory, state, place, came, told = set(), 0, -1, {}, []
    for at, block in enumerate(walk):
        full = block not in memory and len(memory) == rooms
        out = -1
        if rule == "last used" and full:
            out = min(memory, key=lambda old: max(k for k in range(at) if walk[k] == old))
        elif rule == "first in" and full:
            out = min(memory, key=lambda old: came[old])
        elif not isinstance(rule, str):
            rows = [row for row in rule[1] if tuple(row[:4]) == (state, tuple(sorted(memory)), place, block)]
            out = rows[0][5] if rows else min(memory) if full else -1
            state = rows[0][4] if rows else state
        moved = int(block not in memory)
        if moved:
            came[block] = at
        memory = memory - {out} | {block}
        place = block
        told.append((moved, out, tuple(sorted(memory))))
    return tuple(told)


def outs(rooms, rule, walk):
    return tuple(out for _, out, _ in run_by_eye(rooms, rule, walk))


def random_table(luck, web, rooms, states, many):
    """Some rows at standings that can be met."""
    rows = {}
    beside = rows_of(web)
    for _ in range(many):
        size = luck.randint(0, min(rooms, web[0]))
        memory = tuple(sorted(luck.sample(range(web[0]), size)))
        place = luck.choice(memory) if memory else -1
        blocks = sorted(beside[place]) if memory else list(range(web[0]))
        if blocks:
            block = luck.choice(blocks)
            out = luck.choice(memory) if block not in memory and size == rooms else -1
            rows[(luck.randrange(states), memory, place, block)] = (luck.randrange(states), out)
    return states, tuple(sorted(standing + told for standing, told in rows.items()))


def rules_for(luck, web, rooms):
    yield from WORDS
    yield 1, ()
    for states in (1, 2, 3):
        yield random_table(luck, web, rooms, states, 12)


def small_cases():
    luck = random.Random(5)
    for web in [*all_webs(3), *unlike_webs(4)]:
        for rooms in (1, 2, 3):
            for rule in rules_for(luck, web, rooms):
                yield web, rooms, rule


class TestRules(Case):
    def test_runs_by_eye(self):
        luck = random.Random(1)
        for _ in range(300):
            web = whole(luck.randint(2, 5))
            rooms = luck.randint(1, 5)
            walk = [luck.randrange(web[0])]
            for _ in range(20):
                walk.append(luck.choice([block for block in range(web[0]) if block != walk[-1]]))
            for rule in rules_for(luck, web, rooms):
                told = run_by_eye(rooms, rule, walk)
                self.assertEqual(told, rule_run(rooms, rule, walk))
                self.assertEqual(sum(moved for moved, _, _ in told), rule_moves(rooms, rule, walk))

    def test_told(self):
        self.gives(((1, -1, (0,)), (1, -1, (0, 1)), (0, -1, (0, 1)), (1, 0, (1, 2))), rule_run, 2, "first in", (0, 1, 0, 2))
        self.gives(((1, -1, (0,)), (1, -1, (0, 1)), (0, -1, (0, 1)), (1, 1, (0, 2))), rule_run, 2, "last used", (0, 1, 0, 2))
        self.gives(((1, -1, (39,)), (1, 39, (5,))), rule_run, 1, "first in", (39, 5))
        table = (2, ((0, (), -1, 3, 1, -1), (1, (3, 4), 4, 5, 0, 4)))
        self.gives(((1, -1, (3,)), (1, -1, (3, 4)), (1, 4, (3, 5)), (1, 3, (4, 5))), rule_run, 2, table, (3, 4, 5, 4))
        self.gives(((1, -1, (4,)), (1, -1, (3, 4)), (1, -1, (3, 4)), (0, -1, (3, 4)))[:2], rule_run, 2, table, (4, 3))
        self.gives(4, rule_moves, 2, table, (3, 4, 5, 4))

    def test_rules_are_told_ascending(self):
        rows = [[1, [], -1, 0, 0, -1], (0, (0, 1), 1, 2, 1, 0), (0, (0, 1), 0, 2, 1, 1), (0, (0,), 0, 1, 0, -1)]
        told = (2, ((0, (0,), 0, 1, 0, -1), (0, (0, 1), 0, 2, 1, 1), (0, (0, 1), 1, 2, 1, 0), (1, (), -1, 0, 0, -1)))
        self.gives(told, need_rule, 2, (2, rows))
        self.gives((720, ()), need_rule, 1, (720, []))
        self.gives("last used", need_rule, 5, "last used")
        self.gives("first in", need_rule, 1, "first in")
        self.gives((1, ((0, (1,), 1, 0, 0, 1),)), need_rule, 1, (1, [(0, [1], 1, 0, 0, 1)]))
        self.gives((1, ((0, (1,), 1, 0, 0, -1),)), need_rule, 2, (1, [(0, [1], 1, 0, 0, -1)]))

    def test_rows_wrong_for_the_rooms(self):
        for rooms, row in (
            (1, (0, (0, 1), 0, 2, 0, 0)), (1, (0, (1,), 1, 0, 0, -1)), (2, (0, (1,), 1, 0, 0, 1)), (2, (0, (1, 0), 1, 2, 0, 1)),
            (2, (0, (0, 1), 2, 3, 0, 0)), (2, (0, (0, 1), 0, 2, 0, 2)), (2, (0, (0, 1), 0, 2, 0, -1)), (2, (0, (0, 1), 0, 1, 0, 0)),
            (2, (0, (0, 1), 0, 0, 0, -1)), (2, (0, (), 0, 0, 0, -1)), (2, (0, (0,), -1, 1, 0, -1)), (2, (0, (0, 0), 0, 1, 0, -1)),
            (2, (2, (), -1, 1, 0, -1)), (2, (0, (), -1, 1, 2, -1)), (2, (0, (), -1, 40, 0, -1)), (2, (0, (40,), 40, 1, 0, -1)),
            (2, (0, (), -1, 1, 0, 1)), (2, (0, (), -1, 1, 0, -2)), (2, (0, (0, 1), 0, 2, 0, True)), (2, (0, (0, 1), False, 2, 0, 1)),
            (2, (0, (0, 1), 0, 2, 0)), (2, (0, (0, 1), 0, 2, 0, 1, 1)), (2, (False, (0, 1), 0, 2, 0, 1)), (2, (0, (), -2, 1, 0, -1)),
        ):
            good = (0, (0,), 0, 1, 0, 0 if rooms == 1 else -1)
            self.fails(InvalidRule(0), need_rule, rooms, (2, (row,)))
            self.fails(InvalidRule(1), need_rule, rooms, (2, (good, row, row)))
            self.fails(InvalidRule(1), rule_run, rooms, (2, [good, list(row)]), (0, 1))

    def test_alike_rows(self):
        rows = ((0, (0, 1), 0, 2, 0, 1), (1, (0, 1), 0, 2, 0, 1), [0, [0, 1], 0, 2, 1, 0])
        self.fails(InvalidRule(2), need_rule, 2, (2, rows))
        self.fails(InvalidRule(1), need_rule, 2, (2, rows[::2]))

    def test_a_room_more_of_last_used(self):
        for walk in walks_of(whole(4), 7):
            runs = [rule_run(rooms, "last used", walk) for rooms in range(1, 6)]
            for run, more in zip(runs, runs[1:]):
                self.assertTrue(all(set(one[2]) <= set(other[2]) for one, other in zip(run, more)))
                self.assertTrue(all(one[0] >= other[0] for one, other in zip(run, more)))

    def test_400_touches(self):
        walk = (tuple(range(40)) * 10)
        for rule in WORDS:
            self.assertEqual(400, self.tell(rule_moves, 5, rule, walk))
        self.fails(InvalidWalk(-1), rule_run, 5, "first in", walk + (0,))
        self.fails(InvalidRooms(-1), rule_run, 6, "Last", 0)
        self.fails(InvalidRule(-1), rule_run, 5, "Last", 0)


class TestTables(Case):
    def test_the_table_puts_out_the_same(self):
        for web, rooms, rule in small_cases():
            table = rule_table(web, rooms, rule)
            self.assertEqual(table, need_rule(rooms, table))
            self.assertEqual(table, rule_table(web, rooms, table))
            for walk in walks_of(web, 6):
                self.assertEqual(outs(rooms, rule, walk), outs(rooms, table, walk), (web, rooms, rule))

    def test_rows_and_numbers_of_the_table(self):
        for web, rooms, rule in small_cases():
            if web[0] == 4 and rule not in WORDS:
                continue
            states, rows = rule_table(web, rooms, rule)
            seen_states, seen_rows, complete = self.table_by_eye(web, rooms, rule)
            self.assertLessEqual(seen_rows, set(rows), (web, rooms, rule))
            self.assertLessEqual(seen_states, states)
            if complete:
                self.assertEqual((seen_states, tuple(sorted(seen_rows))), (states, rows), (web, rooms, rule))

    def table_by_eye(self, web, rooms, rule):
        """Walks stand alike if what goes out on all ways on is alike; so many touches on tell all here.

        Complete, if no longer walk led to another standing.
        """
        depth = 4 if web[0] == 4 else 7
        firsts, order, known = {}, [], {}
        for touches in range(0, 6):
            many = len(order)
            for walk in walks_of(web, touches) if touches else [()]:
                run = run_by_eye(rooms, rule, walk)
                memory = run[-1][2] if run else ()
                place = walk[-1] if walk else -1
                ways = walks_of(web, depth) if not walk else [
                    way for way in walks_of(web, depth) if way[0] in rows_of(web)[walk[-1]]]
                sign = (memory, place, tuple(outs(rooms, rule, walk + way)[len(walk):] for way in ways))
                known[walk] = sign
                if sign not in firsts:
                    firsts[sign] = sum(other[:2] == sign[:2] for other in order)
                    order.append(sign)
        rows = set()
        for walk, (memory, place, _) in known.items():
            for block in sorted(rows_of(web)[walk[-1]]) if walk else range(web[0]):
                if walk + (block,) in known:
                    out = outs(rooms, rule, walk + (block,))[-1]
                    rows.add((firsts[known[walk]], memory, place, block, firsts[known[walk + (block,)]], out))
        return max(firsts.values()) + 1, rows, many == len(order)

    def test_states_that_are_told(self):
        for many in range(2, 7):
            for rooms in range(1, min(many, 6)):
                self.assertEqual(factorial(rooms - 1), rule_table(whole(many), rooms, "last used")[0])
                self.assertEqual(factorial(rooms), rule_table(whole(many), rooms, "first in")[0])
        for web in all_webs(5):
            if is_calm(web, 2) and len(parts_of(web)) == 1:
                self.assertEqual(1, rule_table(web, 2, "last used")[0])
        for many in range(1, 7):
            for rooms in range(1, 6):
                self.gives(1, lambda web, rooms, rule: rule_table(web, rooms, rule)[0], line(many), rooms, "last used")
        self.assertEqual(2, rule_table(STAR, 3, "last used")[0])

    def test_equal_tables_exactly_of_rules_that_put_out_the_same(self):
        luck = random.Random(3)
        for web in all_webs(3):
            for rooms in (1, 2):
                tables = [random_table(luck, web, rooms, 2, 3) for _ in range(8)] + [*WORDS, (1, ())]
                for one, other in combinations(tables, 2):
                    alike = all(outs(rooms, one, walk) == outs(rooms, other, walk) for walk in walks_of(web, 8))
                    self.assertEqual(alike, rule_table(web, rooms, one) == rule_table(web, rooms, other))

    def test_big_tables(self):
        table = rule_table(whole(6), 5, "first in")
        self.assertEqual((120, 5), (table[0], max(len(row[1]) for row in table[1])))
        self.assertEqual(table, rule_table(whole(6), 5, table))
        count = tuple((state, (0, 1), place, 1 - place, min(state + 1, 719), -1) for state in range(720) for place in (0, 1))
        table = rule_table(line(3), 2, (720, count + ((719, (0, 1), 1, 2, 719, 1),)))
        # Two touches lead from place 1 to place 1, so behind the first two standings go alike.
        self.assertEqual(361, table[0])
        self.assertEqual(table, rule_table(line(3), 2, table))

    def test_slips_late(self):
        count = [(state, (0, 1), place, 1 - place, min(state + 1, 599), -1) for state in range(600) for place in (0, 1)]
        count += [(state, (1, 2), 1, 0, state, 2) for state in range(600)] + [(599, (0, 1), 1, 2, 599, 1)]
        self.assertEqual((1, 0) * 300 + (1, 2), rule_slip(line(3), 2, (600, count)))
        self.assertEqual((1, 0) * 300 + (1, 2, 1), slip_walk(line(3), 2, (600, count)))
        paper = alike_paper(line(3), 2, (600, count), "last used")
        self.assertEqual(("walk", (1, 0) * 300 + (1, 2, 1)), paper)
        # The judge lets walks of at most 400 touches.
        self.fails_to_hold(alike_holds, line(3), 2, (600, count), "last used", paper)

    def test_errors(self):
        for function in (rule_table, move_machine, rule_slip, slip_walk):
            self.fails(InvalidSize("blocks"), function, line(7), 2, "last used")
            self.fails(InvalidSize("blocks"), function, line(40), 2, "last used")
            self.fails(InvalidRule(-1), function, line(7), 2, "last")
            self.fails(InvalidRooms(-1), function, line(7), 6, "last")
            self.fails(InvalidWeb(-1), function, (41, ()), 6, "last")
        for function, more in ((alike_paper, ()), (alike_holds, (None,))):
            self.fails(InvalidSize("blocks"), function, line(7), 2, "last used", "first in", *more)
            self.fails(InvalidRule(-1), function, line(7), 2, "last used", "first", *more)
            self.fails(InvalidRule(0), function, line(7), 2, (1, [0]), "first", *more)


class TestMachines(Case):
    def test_machines_of_small_webs(self):
        for web, rooms, rule in small_cases():
            machine = move_machine(web, rooms, rule)
            rows = rows_of(web)
            reached = {0: None}
            for state, told in enumerate(machine):
                for block, moved, following in told:
                    self.assertEqual(block, reached.setdefault(following, block))
                    self.assertNotEqual(0, following)
            self.assertEqual(list(range(len(machine))), list(reached))
            for state, told in enumerate(machine):
                wanted = range(web[0]) if state == 0 else sorted(rows[reached[state]])
                self.assertEqual(list(wanted), [block for block, _, _ in told])
            for walk in walks_of(web, 6):
                self.assertEqual([moved for moved, _, _ in run_by_eye(rooms, rule, walk)], self.moves(machine, walk))
            self.holds(alike_holds, web, rooms, rule, rule, ("alike", machine))

    def moves(self, machine, walk):
        state, moves = 0, []
        for block in walk:
            moved, state = [row[1:] for row in machine[state] if row[0] == block][0]
            moves.append(moved)
        return moves

    def test_fewest_states(self):
        """Each two states that one block reaches are told apart by some walk."""
        for web, rooms, rule in small_cases():
            machine = move_machine(web, rooms, rule)
            signs = set()
            reached = {following: block for told in machine for block, _, following in told}
            for state in range(1, len(machine)):
                signs.add((reached[state], self.sign(machine, state, 7)))
            self.assertEqual(len(machine) - 1, len(signs))

    def sign(self, machine, state, depth):
        if depth == 0:
            return ()
        return tuple((block, moved, self.sign(machine, following, depth - 1)) for block, moved, following in machine[state])

    def test_told(self):
        self.gives((((0, 1, 1),), ()), move_machine, (1, ()), 3, "last used")
        self.gives((((0, 1, 1), (1, 1, 2)), ((1, 1, 3),), ((0, 1, 4),), ((0, 0, 4),), ((1, 0, 3),)),
                   move_machine, line(2), 2, "first in")
        self.gives((((0, 1, 1), (1, 1, 2)), ((1, 1, 2),), ((0, 1, 1),)), move_machine, line(2), 1, "first in")
        self.assertEqual(5467, len(move_machine(whole(6), 5, "first in")))

    def test_alike_papers(self):
        luck = random.Random(9)
        for web in [*all_webs(3), *unlike_webs(4)]:
            for rooms in (1, 2, 3):
                rules = [*WORDS, (1, ()), random_table(luck, web, rooms, 2, 6), random_table(luck, web, rooms, 3, 9)]
                for one, other in product(rules, repeat=2):
                    self.alike(web, rooms, one, other)

    def alike(self, web, rooms, one, other):
        paper = alike_paper(web, rooms, one, other)
        self.assertIs(True, alike_holds(web, rooms, one, other, paper))
        first = None
        for touches in range(1, 7):
            for walk in walks_of(web, touches):
                moves = [run_by_eye(rooms, rule, walk)[-1][0] for rule in (one, other)]
                if first is None and moves[0] != moves[1]:
                    first = walk
        if first is not None:
            self.assertEqual(("walk", first), paper)
        elif paper[0] == "alike":
            self.assertEqual(move_machine(web, rooms, one), paper[1])
            self.assertEqual(move_machine(web, rooms, other), paper[1])
        else:
            self.assertLess(6, len(paper[1]))

    def test_machines_that_are_let(self):
        web = line(2)
        machine = move_machine(web, 2, "last used")
        good = [
            (((0, 1, 1), (1, 1, 2)), ((1, 1, 3),), ((0, 1, 4),), ((0, 0, 4),), ((1, 0, 3),)),
            (((0, 1, 1), (1, 1, 1)), ((0, 1, 2), (1, 1, 2)), ((0, 0, 2), (1, 0, 2))),
            (((0, 1, 1), (1, 1, 1), (39, 0, 0)), ((0, 1, 2), (1, 1, 2)), ((0, 0, 2), (1, 0, 2)), (), ((7, 1, 4),)),
        ]
        for told in good:
            self.holds(alike_holds, web, 2, "last used", "first in", ("alike", told))
        bad = [
            (), ((),), machine[:-1], machine[1:], machine + (((2, 1, 5), (2, 0, 5)),), machine + (((3, 1, 0), (2, 0, 0)),),
            machine + (((40, 1, 0),),), machine + (((-1, 1, 0),),), machine + (((0, 2, 0),),), machine + (((0, -1, 0),),),
            machine + (((0, 0, 6),),), machine + (((0, 0, -1),),), machine + (((0, 0),),), machine + (((0, 0, 0, 0),),),
            machine + (0,), (((0, 1, 1), (1, 1, 2)), ((1, 1, 3),), ((0, 1, 4),), ((0, 0, 4),), ((1, 1, 3),)),
            (((0, 1, 1), (1, 1, 2)), (), ((0, 1, 4),), ((0, 0, 4),), ((1, 0, 3),)),
        ]
        for told in bad:
            self.fails_to_hold(alike_holds, web, 2, "last used", "first in", ("alike", told))

    def test_great_machines(self):
        for web, rooms, many in ((whole(6), 5, 5467), (whole(6), 3, 427), (ring(6), 3, None)):
            table = rule_table(web, rooms, "first in")
            kind, machine = paper = alike_paper(web, rooms, "first in", table)
            self.assertEqual(many or len(machine), len(machine))
            self.assertTrue(alike_holds(web, rooms, "first in", table, paper))
            self.assertFalse(alike_holds(web, rooms, "first in", "last used", paper))
            last = machine[-1][:-1] + ((machine[-1][-1][0], 1 - machine[-1][-1][1], machine[-1][-1][2]),)
            self.assertFalse(alike_holds(web, rooms, "first in", table, (kind, machine[:-1] + (last,))))

    def test_walks_that_are_let(self):
        web = whole(3)
        self.gives(("walk", (0, 1, 0, 2, 0)), alike_paper, web, 2, "last used", "first in")
        judge = (alike_holds, web, 2, "last used", "first in")
        self.holds(*judge, ("walk", (0, 1, 0, 2, 0)))
        self.holds(*judge, ("walk", (1, 0, 1, 2, 1)))
        self.fails_to_hold(*judge, ("walk", (0, 1, 0, 2)))
        self.holds(*judge, ("walk", (0, 1, 0, 2, 0, 1, 0)))
        self.fails_to_hold(*judge, ("walk", (0, 1, 0, 2, 2)))
        self.fails_to_hold(*judge, ("walk", (0, 1, 0, 2, 3)))
        self.fails_to_hold(*judge, ("walk", ()))
        self.fails_to_hold(*judge, ("walks", (0, 1, 0, 2, 0)))
        self.fails_to_hold(*judge, ("alike", move_machine(web, 2, "last used")))
        self.fails_to_hold(*judge, ("alike", move_machine(web, 2, "first in")))
        for walk in walks_of(web, 7):
            moves = [len([row for row in run_by_eye(2, rule, walk) if row[0]]) for rule in WORDS]
            self.assertIs(moves[0] != moves[1], alike_holds(web, 2, *WORDS, ("walk", walk)))
        long = (0, 1) * 198 + (2, 1, 0, 2)
        slow = (0, 1) * 197 + (2, 1, 0, 2, 0, 1)
        for walk in (long, slow):
            self.assertEqual(400, len(walk))
            unlike = rule_moves(2, "last used", walk) != rule_moves(2, "first in", walk)
            self.assertIs(unlike, alike_holds(web, 2, "last used", "first in", ("walk", walk)))
        self.fails_to_hold(*judge, ("walk", (0, 1, 0, 2, 0) + (1, 0) * 198))
        self.fails_to_hold(alike_holds, web, 2, "last used", "last used", ("walk", (0, 1, 0, 2, 0)))

    def test_other_values_do_not_hold(self):
        for web, rooms in ((whole(3), 2), (line(3), 3)):
            paper = alike_paper(web, rooms, "last used", "first in")
            self.refuses_all(alike_holds, web, rooms, "last used", "first in")
            for other in lists_within(paper) + bools_within(paper):
                self.fails_to_hold(alike_holds, web, rooms, "last used", "first in", other)
            for value in ANY:
                for kind in ("walk", "alike"):
                    self.fails_to_hold(alike_holds, web, rooms, "last used", "first in", (kind, value))
                    self.fails_to_hold(alike_holds, web, rooms, "last used", "first in", (kind, (value, value)))
                self.fails_to_hold(alike_holds, web, rooms, "last used", "first in", paper + (value,))
                # A block more can go on with the walk, and a state that no walk comes to is let.
                if type(value) is not int and repr(value) != "()":
                    self.fails_to_hold(alike_holds, web, rooms, "last used", "first in", (paper[0], paper[1] + (value,)))


class TestSlips(Case):
    def slip_by_eye(self, web, rooms, rule, most):
        for touches in range(1, most + 1):
            for walk in walks_of(web, touches):
                if run_by_eye(rooms, rule, walk)[-1][1] != run_by_eye(rooms, "last used", walk)[-1][1]:
                    return walk
        return None

    def test_slips_of_small_webs(self):
        for web, rooms, rule in small_cases():
            slip = rule_slip(web, rooms, rule)
            seen = self.slip_by_eye(web, rooms, rule, 6)
            if slip is None or len(slip) <= 6:
                self.assertEqual(seen, slip, (web, rooms, rule))
            walk = slip_walk(web, rooms, rule)
            if slip is None:
                self.assertIsNone(walk)
                continue
            self.slip_walk_by_eye(web, rooms, rule, slip, walk)

    def slip_walk_by_eye(self, web, rooms, rule, slip, walk):
        run = run_by_eye(rooms, rule, slip)
        used = run_by_eye(rooms, "last used", slip)[-1][1]
        inner = set(run[-2][2]) - {used}
        self.assertEqual(slip, walk[:len(slip)])
        back = walk[len(slip):]
        self.assertEqual(run[-1][1], back[-1])
        self.assertTrue(set(back) <= inner)
        rows = rows_of(web)
        self.assertTrue(all(b in rows[a] for a, b in zip(walk, walk[1:])))
        ways = {slip[-1]}
        for _ in range(len(back) - 1):
            ways = {b for a in ways for b in rows[a] if b in inner}
            self.assertNotIn(back[-1], ways)
        ahead = [sum(row[0] for row in run_by_eye(rooms, one, walk)) for one in (rule, "last used")]
        self.assertEqual(ahead[0], ahead[1] + 1)
        self.assertGreater(ahead[0], least_moves(walk, rooms))

    def test_told(self):
        self.gives((1, 0, 1, 2, 1), slip_walk, line(4), 2, "first in")
        self.gives((1, 0, 1, 2), rule_slip, line(4), 2, "first in")
        self.gives(None, rule_slip, line(4), 4, "first in")
        self.gives(None, slip_walk, line(4), 1, "first in")
        self.gives(None, rule_slip, whole(6), 5, "last used")

    def test_first_in_slips_where_a_part_has_more_blocks_than_rooms(self):
        for web in [*all_webs(4), *unlike_webs(5)]:
            for rooms in range(2, 6):
                great = max(len(part) for part in parts_of(web)) > rooms
                self.assertEqual(great, rule_slip(web, rooms, "first in") is not None)

    def test_on_calm_webs_just_those_without_a_slip_are_never_behind(self):
        for web, rooms, rule in small_cases():
            if is_calm(web, rooms):
                behind = max(sum(row[0] for row in run_by_eye(rooms, rule, walk)) - least_moves(walk, rooms)
                             for touches in (1, 6) for walk in walks_of(web, touches) or [(0,)])
                slip = slip_walk(web, rooms, rule)
                if slip is None:
                    self.assertEqual(0, behind)
                elif len(slip) <= 6:
                    self.assertGreater(behind, 0)


if __name__ == "__main__":
    unittest.main()
