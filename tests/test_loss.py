"""Promises 39 to 41."""

import random
import unittest
from functools import lru_cache
from math import gcd

from slowshelves.calm import is_calm
from slowshelves.errors import InvalidRooms, InvalidRule, InvalidSize, InvalidWalk, InvalidWeb
from slowshelves.hindsight import run_moves
from slowshelves.loss import (
    greatest_loss, loss_holds, loss_paper, losses_row, quotient_holds, quotient_paper, walk_loss,
)
from slowshelves.rules import rule_slip
from tests import support
from tests.support import (
    ANY, Case, all_webs, bools_within, calm_by_words, least_moves, line, lists_within, ring, rows_of, unlike_webs, walks_of, whole,
)
from tests.test_gaps import all_runs
from tests.test_rules import random_table, run_by_eye

STAR = (4, ((0, 1), (0, 2), (0, 3)))
WORDS = ("last used", "first in")


def rule_step(own, rule, standing, block):
    """The rule's standing behind a touch, and 1 for a move."""
    state, memory, place = standing
    moved = int(block not in memory)
    full = moved and len(memory) == own
    if isinstance(rule, str):
        out = state[0] if full else None
        if rule == "last used" or moved:
            state = tuple(other for other in state if other not in (block, out)) + (block,)
    else:
        rows = [row for row in rule[1] if tuple(row[:4]) == (state, memory, place, block)]
        out = (rows[0][5] if rows else min(memory)) if full else None
        state = rows[0][4] if rows else state
    return (state, tuple(sorted((set(memory) - {out}) | {block})), block), moved


def steps_by_eye(web, rooms, own, rule, standing):
    """All (rule's move, mate's move, standing behind, block, lot) from a standing."""
    state, memory, place, mate = standing
    for block in sorted(rows_of(web)[place]) if place >= 0 else range(web[0]):
        behind, moved = rule_step(own, rule, (state, memory, place), block)
        lots = [(out,) for out in mate] if block not in mate and len(mate) == rooms else [()]
        for lot in lots:
            kept = tuple(sorted((set(mate) - set(lot)) | {block}))
            yield moved, int(block not in mate), behind + (kept,), block, lot


def first_by_eye(rule):
    return (() if isinstance(rule, str) else 0, (), -1, ())


def met_by_eye(web, rooms, own, rule):
    """All standings that can be met, each with its steps."""
    first = first_by_eye(rule)
    steps, waiting = {}, [first]
    while waiting:
        standing = waiting.pop()
        if standing not in steps:
            steps[standing] = list(steps_by_eye(web, rooms, own, rule, standing))
            waiting += [step[2] for step in steps[standing]]
    return steps


def ring_by_eye(case, web, rooms, own, rule, lead, ring, run):
    """(moves of the rule, of the mate) on the ring, looked at step by step."""
    case.assertTrue(lead and ring)
    case.assertEqual(len(lead) + len(ring), len(run))
    standing, moves = first_by_eye(rule), [0, 0]
    for at, (block, lot) in enumerate(zip(lead + ring, run)):
        if at == len(lead):
            begin, moves = standing, [0, 0]
        found = [step for step in steps_by_eye(web, rooms, own, rule, standing) if step[3:] == (block, lot)]
        case.assertEqual(1, len(found))
        moves = [moves[0] + found[0][0], moves[1] + found[0][1]]
        standing = found[0][2]
    case.assertEqual(begin, standing)
    return moves


def high_by_eye(case, steps, heights, p, q):
    case.assertEqual(sorted(steps), [standing for standing, _ in heights])
    told = dict(heights)
    case.assertTrue(all(type(height) is int and height >= 0 for height in told.values()))
    for standing in steps:
        for moved, mate_moved, behind, _, _ in steps[standing]:
            case.assertGreaterEqual(told[standing], q * moved - p * mate_moved + told[behind])
    return told


@lru_cache(maxsize=None)
def short_walks(web, touches):
    return tuple(walk for length in range(1, touches + 1) for walk in walks_of(web, length))


def some_rules(luck, web, own):
    return WORDS + ((1, ()), random_table(luck, web, own, 2, 8), random_table(luck, web, own, 3, 13))


class TestLoss(Case):
    def test_told(self):
        walk = (0, 1, 2, 1, 0, 1)
        self.gives(1, walk_loss, line(3), 2, 2, "first in", walk)
        self.gives(0, walk_loss, line(3), 2, 2, "last used", walk)
        self.gives(2, walk_loss, line(3), 2, 1, "last used", walk)
        self.gives(-1, walk_loss, line(3), 2, 3, "first in", walk)
        self.gives(0, greatest_loss, line(3), 2, 2, "last used")
        self.gives(None, greatest_loss, line(3), 2, 2, "first in")
        self.gives(None, greatest_loss, whole(3), 2, 2, "last used")
        self.gives(0, greatest_loss, whole(3), 2, 3, "last used")
        self.gives(0, greatest_loss, (3, ()), 1, 1, "last used")
        self.gives(("most", 0, ((((), (), -1, ()), 0), (((0,), (0,), 0, (0,)), 0)), (0,)), loss_paper, (1, ()), 2, 3, "first in")
        self.gives(("most", 0, (((0, (), -1, ()), 0), ((0, (0,), 0, (0,)), 0)), (0,)), loss_paper, (1, ()), 2, 3, (1, ()))

    def test_walks(self):
        luck = random.Random(1)
        for web in [*all_webs(3), *unlike_webs(4)]:
            for walk in walks_of(web, 6)[::3]:
                for rooms in (1, 2, 3):
                    for own in (1, 2, 3, 5):
                        for rule in some_rules(luck, web, own)[1:4]:
                            moves = sum(row[0] for row in run_by_eye(own, rule, walk))
                            self.assertEqual(moves - least_moves(walk, rooms), walk_loss(web, rooms, own, rule, walk))

    def paper(self, web, rooms, own, rule):
        paper = loss_paper(web, rooms, own, rule)
        self.assertTrue(support.is_told(paper))
        told = greatest_loss(web, rooms, own, rule)
        if paper[0] == "most":
            _, number, heights, walk = paper
            self.assertEqual(told, number)
            gains = high_by_eye(self, met_by_eye(web, rooms, own, rule), heights, 1, 1)
            self.assertEqual(number, gains[first_by_eye(rule)])
            moves = sum(row[0] for row in run_by_eye(own, rule, walk))
            self.assertEqual(number, moves - least_moves(walk, rooms))
            rows = rows_of(web)
            self.assertTrue(all(other in rows[block] for block, other in zip(walk, walk[1:])))
        else:
            kind, lead, rounds, run = paper
            self.assertEqual(("endless", None), (kind, told))
            moves = ring_by_eye(self, web, rooms, own, rule, lead, rounds, run)
            self.assertGreater(moves[0], moves[1])
            walk = lead + rounds * 6
            self.assertGreaterEqual(sum(row[0] for row in run_by_eye(own, rule, walk)) - least_moves(walk, rooms), 6 - len(lead))
            run_moves(lead + rounds, rooms, run)
        self.assertIs(True, loss_holds(web, rooms, own, rule, paper))
        return told

    def short(self, web, rooms, own, rule, told, touches):
        """No short walk loses more; if the loss is small some short walk has it."""
        losses = [walk_loss(web, rooms, own, rule, walk) for walk in short_walks(web, touches)]
        if told is not None:
            self.assertLessEqual(max(losses), told)

    def test_small_webs(self):
        luck = random.Random(2)
        for web in [*all_webs(3), *unlike_webs(4)]:
            for rooms in (1, 2, 3):
                for own in (1, 2, 3, 4, 5):
                    for rule in some_rules(luck, web, own):
                        told = self.paper(web, rooms, own, rule)
                        if web[0] < 4 and own < 5:
                            self.short(web, rooms, own, rule, told, 6)

    def test_greatest_losses_are_met_by_short_walks(self):
        for web, rooms, own, rule in ((line(3), 2, 3, "first in"), (line(4), 3, 4, "first in"), (STAR, 2, 2, "last used"), (line(4), 2, 2, "last used")):
            losses = [walk_loss(web, rooms, own, rule, walk) for walk in short_walks(web, 7)]
            self.assertEqual(max(losses), greatest_loss(web, rooms, own, rule))

    def test_all_runs_on_short_walks(self):
        """No mate at all gains more than is told, nor goes by more than the quotient."""
        for web in [*all_webs(3), line(4), STAR]:
            for rooms in (1, 2, 3):
                for own, rule in ((2, "last used"), (3, "first in"), (3, (1, ())), (5, "last used")):
                    told = greatest_loss(web, rooms, own, rule)
                    quotient = quotient_paper(web, rooms, own, rule)
                    first = dict(quotient[3])[first_by_eye(rule)] if quotient[0] == "quotient" else 0
                    for walk in short_walks(web, 5):
                        moves = sum(row[0] for row in run_by_eye(own, rule, walk))
                        fewest = []
                        for _, memories in all_runs(walk, (rooms,) * len(walk)):
                            fewest.append(sum(at == 0 or block not in memories[at - 1] for at, block in enumerate(walk)))
                            if quotient[0] == "quotient":
                                self.assertLessEqual(quotient[2] * moves, quotient[1] * fewest[-1] + first)
                        self.assertEqual(moves - min(fewest), walk_loss(web, rooms, own, rule, walk))
                        if told is not None:
                            self.assertLessEqual(moves - min(fewest), told)

    def test_five_blocks(self):
        for web in list(unlike_webs(5))[::2]:
            for rooms in (1, 2):
                for own in (1, 2, 3, 5):
                    self.paper(web, rooms, own, "last used")

    def test_zero_exactly_on_calm_webs_for_rules_without_a_slip(self):
        luck = random.Random(3)
        for web in [*all_webs(3), *unlike_webs(4), *list(unlike_webs(5))[::3]]:
            for rooms in (1, 2, 3):
                if web[0] == 5 and rooms == 3:
                    continue
                calm = calm_by_words(web, rooms)
                self.assertEqual(0 if calm else None, greatest_loss(web, rooms, rooms, "last used"))
                for rule in some_rules(luck, web, rooms)[1:] if web[0] < 5 else ():
                    loses = greatest_loss(web, rooms, rooms, rule)
                    self.assertEqual(rooms == 1 or (calm and rule_slip(web, rooms, rule) is None), loses == 0)
                    self.assertEqual(calm, is_calm(web, rooms))

    def test_papers_that_are_let(self):
        web, rooms, own, rule = line(3), 2, 3, "first in"
        kind, number, heights, walk = loss_paper(web, rooms, own, rule)
        first = [at for at, (standing, _) in enumerate(heights) if standing == first_by_eye(rule)][0]
        steps = met_by_eye(web, rooms, own, rule)
        for other in short_walks(web, 5):
            good = walk_loss(web, rooms, own, rule, other) == number
            self.assertIs(good, loss_holds(web, rooms, own, rule, (kind, number, heights, other)))
        for at in range(len(heights)):
            for more in (-1, 1, 5):
                changed = heights[:at] + ((heights[at][0], heights[at][1] + more),) + heights[at + 1:]
                told = dict(changed)
                good = all(told[one] >= step[0] - step[1] + told[step[2]] for one in steps for step in steps[one])
                good = good and min(told.values()) >= 0 and told[first_by_eye(rule)] == number
                self.assertIs(good, loss_holds(web, rooms, own, rule, (kind, number, changed, walk)))
        long = (0, 1) * 300
        self.assertEqual(0, number)
        self.holds(loss_holds, (2, ((0, 1),)), 2, 2, "last used", ("most", 0, loss_paper((2, ((0, 1),)), 2, 2, "last used")[2], long))
        self.assertGreater(len(heights), first)

    def test_changed_papers_of_most(self):
        for web, rooms, own, rule in ((line(3), 2, 2, "last used"), (line(3), 2, 3, (2, ())), (STAR, 2, 2, "last used")):
            kind, number, heights, walk = paper = loss_paper(web, rooms, own, rule)
            judge = (loss_holds, web, rooms, own, rule)
            self.holds(*judge, paper)
            self.refuses_all(*judge)
            wrong = lists_within(paper) + bools_within(paper) + [paper[:3], paper + ((),), ("endless",) + paper[1:]]
            wrong += [(kind, number + 1, heights, walk), (kind, number - 1, heights, walk), (kind, number, heights[::-1], walk)]
            wrong += [(kind, number, heights[:-1], walk), (kind, number, heights[1:], walk), (kind, number, heights + heights[-1:], walk)]
            wrong += [(kind, number, heights, ()), (kind, number, heights, walk + walk[-1:]), (kind, number, heights, walk + (web[0],))]
            for value in ANY:
                wrong += [(value, number, heights, walk), (kind, value if repr(value) != repr(number) else -1, heights, walk)]
                wrong += [(kind, number, value, walk), (kind, number, heights, value if not self.is_small_walk(value) else None)]
                for at in range(0, len(heights), 5):
                    wrong += [(kind, number, heights[:at] + (other,) + heights[at + 1:], walk)
                              for other in (value, (value, 0), heights[at] + (value,)) if other != heights[at]]
                    if type(value) is not int:
                        wrong += [(kind, number, heights[:at] + ((heights[at][0], value),) + heights[at + 1:], walk)]
            for value in wrong:
                self.assertIs(False, loss_holds(web, rooms, own, rule, value), value)

    def is_small_walk(self, value):
        return isinstance(value, tuple) and value and all(type(item) is int for item in value)

    def test_changed_papers_of_endless(self):
        for function, judged in ((loss_paper, loss_holds), (quotient_paper, quotient_holds)):
            asked = ((line(3), 2, 2, "first in"), (whole(3), 2, 2, "last used"), (STAR, 3, 3, (1, ())))
            if function is quotient_paper:
                asked = ((line(3), 3, 2, "first in"), (whole(3), 3, 2, "last used"), (STAR, 3, 1, (1, ())))
            for web, rooms, own, rule in asked:
                kind, lead, rounds, run = paper = function(web, rooms, own, rule)
                self.assertEqual("endless", kind)
                judge = (judged, web, rooms, own, rule)
                self.holds(*judge, paper)
                self.refuses_all(*judge)
                wrong = lists_within(paper) + bools_within(paper) + [paper[:3], paper + ((),), ("most",) + paper[1:], ("endles",) + paper[1:]]
                wrong += [(kind, (), rounds, run), (kind, lead, (), run), (kind, (), lead + rounds, run), (kind, lead + rounds, (), run)]
                wrong += [(kind, lead, rounds, run[:-1]), (kind, lead, rounds, run + ((),)), (kind, lead, rounds[:-1], run[:-1])]
                for value in ANY:
                    wrong += [(value, lead, rounds, run), (kind, value, rounds, run), (kind, lead, value, run), (kind, lead, rounds, value)]
                    wrong += [(kind, lead[:-1] + (value,), rounds, run) for _ in (0,) if type(value) is not int]
                    wrong += [(kind, lead, rounds[:-1] + (value,), run) for _ in (0,) if type(value) is not int]
                    wrong += [(kind, lead, rounds, run[:at] + (value,) + run[at + 1:]) for at in range(len(run)) if repr(value) != repr(run[at])]
                for value in wrong:
                    self.assertIs(False, judged(web, rooms, own, rule, value) if self.is_other(value, paper) else False, value)
                # Twice round is a ring, too; the lead may be longer by a round.
                behind = run[len(lead):]
                self.holds(*judge, (kind, lead, rounds * 2, run + behind))
                self.holds(*judge, (kind, lead + rounds, rounds, run + behind))

    def is_other(self, value, paper):
        """Whether no other choice of the mate can make it a paper as well."""
        return not (isinstance(value, tuple) and len(value) == 4 and value[:3] == paper[:3] and support.is_told(value)
                    and isinstance(value[3], tuple) and [len(lot) if isinstance(lot, tuple) else -1 for lot in value[3]]
                    == [len(lot) for lot in paper[3]])

    def test_rings_that_gain_nothing(self):
        web = line(3)
        self.fails_to_hold(loss_holds, web, 2, 2, "first in", ("endless", (0, 1), (0, 1), ((),) * 4))
        self.fails_to_hold(quotient_holds, web, 2, 2, "first in", ("endless", (0, 1), (0, 1), ((),) * 4))
        self.fails_to_hold(loss_holds, web, 3, 2, "last used", ("endless", (0, 1), (2, 1), ((),) * 4))

    def test_order_of_errors(self):
        tail = {walk_loss: (0,), loss_paper: (), loss_holds: (0,), greatest_loss: (), quotient_paper: (), quotient_holds: (0,)}
        for function, more in tail.items():
            self.fails(InvalidWeb(-1), function, (0, ()), 0, 0, 0, *more)
            self.fails(InvalidRooms(-1), function, line(3), 0, 0, 0, *more)
            self.fails(InvalidRooms(-1), function, line(3), 1, 6, 0, *more)
            self.fails(InvalidRooms(-1), function, line(3), 1, (1, 1), 0, *more)
            self.fails(InvalidRule(-1), function, line(3), 1, 5, 0, *more)
            # The rule goes by its own rooms.
            table = (1, ((0, (0, 1), 1, 2, 0, 0),))
            self.fails(InvalidRule(0), function, line(3), 2, 1, table, *more)
            self.fails(InvalidRule(0), function, line(3), 2, 3, table, *more)
            if function is not walk_loss:
                self.fails(InvalidSize("standings"), function, whole(7), 3, 5, "last used", *more)
        self.gives(0, walk_loss, line(3), 5, 2, table, (0, 1))
        self.fails(InvalidWalk(-1), walk_loss, line(3), 1, 1, "last used", ())
        self.fails(InvalidWalk(1), walk_loss, line(3), 1, 1, "last used", (0, 2))

    def beside(self, *webs):
        """The web of these beside one another."""
        many, links = 0, []
        for web in webs:
            links += [(one + many, other + many) for one, other in web[1]]
            many += web[0]
        return many, tuple(links)

    def test_20000_standings(self):
        """Just those that can be met are counted."""
        web = self.beside(whole(7), ring(10), line(4), line(4))
        parts = [len(met_by_eye(part, 2, 5, "last used")) - 1 for part in (ring(10), line(4), line(1))]
        self.assertEqual([1790, 50, 1], parts)
        paper = quotient_paper(web, 2, 5, "last used")
        self.assertEqual(20000, len(paper[3]))
        self.assertIs(True, quotient_holds(web, 2, 5, "last used", paper))
        self.assertIs(True, loss_holds(web, 2, 5, "last used", loss_paper(web, 2, 5, "last used")))
        more = self.beside(web, line(1))
        for function, last in ((loss_paper, ()), (greatest_loss, ()), (quotient_paper, ()), (loss_holds, (paper,)), (quotient_holds, (paper,))):
            self.fails(InvalidSize("standings"), function, more, 2, 5, "last used", *last)


class TestQuotient(Case):
    def test_told(self):
        self.assertEqual(("quotient", 1, 1), self.tell(quotient_paper, line(3), 2, 2, "last used")[:3])
        self.assertEqual(("quotient", 3, 2), self.tell(quotient_paper, line(3), 2, 2, "first in")[:3])
        self.assertEqual(("quotient", 2, 1), self.tell(quotient_paper, whole(3), 2, 2, "last used")[:3])
        self.assertEqual(("quotient", 0, 1), self.tell(quotient_paper, whole(3), 2, 3, "last used")[:3])
        self.assertEqual("endless", self.tell(quotient_paper, line(2), 2, 1, "last used")[0])
        one = (1, ())
        self.gives(("quotient", 0, 1, ((((), (), -1, ()), 1), (((0,), (0,), 0, (0,)), 0)), (), (), ()), quotient_paper, one, 2, 3, "first in")

    def paper(self, web, rooms, own, rule):
        paper = quotient_paper(web, rooms, own, rule)
        self.assertTrue(support.is_told(paper))
        if paper[0] == "endless":
            moves = ring_by_eye(self, web, rooms, own, rule, *paper[1:])
            self.assertTrue(moves[0] > 0 and moves[1] == 0)
        else:
            kind, p, q, heights, lead, rounds, run = paper
            self.assertEqual(("quotient", 1), (kind, gcd(p, q)))
            told = high_by_eye(self, met_by_eye(web, rooms, own, rule), heights, p, q)
            if p == 0:
                self.assertEqual((1, (), (), ()), (q, lead, rounds, run))
            else:
                moves = ring_by_eye(self, web, rooms, own, rule, lead, rounds, run)
                self.assertTrue(moves[0] > 0 and moves[0] * q == moves[1] * p)
            if web[0] < 4:
                for walk in short_walks(web, 6)[::3]:
                    moves = sum(row[0] for row in run_by_eye(own, rule, walk))
                    self.assertLessEqual(q * moves, p * least_moves(walk, rooms) + told[first_by_eye(rule)])
        self.assertIs(True, quotient_holds(web, rooms, own, rule, paper))
        if own >= rooms and isinstance(rule, str):
            self.assertLessEqual(paper[1] * (own - rooms + 1), paper[2] * own)
        loss = greatest_loss(web, rooms, own, rule)
        if loss is not None:
            self.assertTrue(paper[0] == "quotient" and paper[1] <= paper[2])
        elif paper[0] == "quotient":
            self.assertGreater(paper[1], paper[2])

    def test_small_webs(self):
        luck = random.Random(4)
        for web in [*all_webs(3), *unlike_webs(4)]:
            for rooms in (1, 2, 3):
                for own in (1, 2, 3, 4, 5):
                    for rule in some_rules(luck, web, own):
                        self.paper(web, rooms, own, rule)

    def test_five_blocks(self):
        for web in list(unlike_webs(5))[1::2]:
            for rooms in (1, 2):
                for own in (1, 2, 3, 5):
                    self.paper(web, rooms, own, "last used")

    def test_more_steps_do_not_make_the_quotient_less(self):
        """Heights with a lesser quotient, and rings with another one, do not hold."""
        for web, rooms, own, rule in ((line(3), 2, 2, "first in"), (whole(3), 2, 2, "last used"), (line(3), 2, 2, "last used"), (STAR, 2, 2, "first in")):
            kind, p, q, heights, lead, rounds, run = paper = quotient_paper(web, rooms, own, rule)
            judge = (quotient_holds, web, rooms, own, rule)
            self.holds(*judge, paper)
            self.refuses_all(*judge)
            higher = tuple((standing, height + 3) for standing, height in heights)
            self.holds(*judge, (kind, p, q, higher, lead, rounds, run))
            self.holds(*judge, (kind, p, q, heights, lead, rounds * 2, run + run[len(lead):]))
            wrong = lists_within(paper) + bools_within(paper) + [paper[:6], paper + ((),), ("endless",) + paper[1:], ("endless",) + paper[4:], paper[:4]]
            wrong += [(kind, 2 * p, 2 * q, tuple((standing, 2 * height) for standing, height in heights), lead, rounds, run)]
            wrong += [(kind, p + 1, q, heights, lead, rounds, run), (kind, p, q + 1, heights, lead, rounds, run), (kind, -p, -q, heights, lead, rounds, run)]
            wrong += [(kind, p, q, heights, (), (), ()), (kind, 0, 1, heights, (), (), ()), (kind, 1, 0, heights, lead, rounds, run)]
            wrong += [(kind, p, q, heights[:-1], lead, rounds, run), (kind, p, q, heights[::-1], lead, rounds, run), (kind, p, q, heights, lead, rounds, run[:-1])]
            wrong += [(kind, p, q, tuple((standing, height - 99) for standing, height in heights), lead, rounds, run)]
            for at in range(7):
                wrong += [paper[:at] + (value,) + paper[at + 1:] for value in ANY if repr(value) != repr(paper[at])]
            for value in wrong:
                self.assertIs(False, quotient_holds(web, rooms, own, rule, value), value)

    def test_changed_papers_without_moves(self):
        for web, rooms, own, rule in ((line(3), 1, 3, "last used"), (whole(3), 2, 3, (1, ())), ((3, ()), 1, 1, "first in")):
            kind, p, q, heights, lead, rounds, run = paper = quotient_paper(web, rooms, own, rule)
            self.assertEqual((0, 1), (p, q))
            judge = (quotient_holds, web, rooms, own, rule)
            self.holds(*judge, paper)
            self.refuses_all(*judge)
            wrong = lists_within(paper) + bools_within(paper) + [(kind, 0, 2, heights, (), (), ()), (kind, 0, 1, heights, (0,), (1, 0), ((),) * 3)]
            for at in range(7):
                wrong += [paper[:at] + (value,) + paper[at + 1:] for value in ANY if repr(value) != repr(paper[at])]
            for value in wrong:
                self.assertIs(False, quotient_holds(web, rooms, own, rule, value), value)
            lesser = heights[:1] + ((heights[1][0], -1),) + heights[2:]
            self.fails_to_hold(*judge, (kind, 0, 1, lesser, (), (), ()))


class TestRows(Case):
    def test_told(self):
        self.gives((None, 0), losses_row, whole(3), 2, "last used")
        self.gives((0,), losses_row, line(3), 2, "last used")
        self.gives((None, 0), losses_row, line(3), 2, "first in")
        self.gives((0,), losses_row, whole(4), 5, "first in")
        self.gives((0,), losses_row, whole(4), 1, "first in")
        self.gives((None,), losses_row, whole(6), 5, "last used")
        self.gives((None, None), losses_row, whole(6), 4, "last used")
        self.gives((None, None, None, 0), losses_row, whole(5), 2, "last used")

    def test_rows(self):
        for web in [*all_webs(3), *unlike_webs(4)]:
            for rooms in range(1, 6):
                for word in WORDS:
                    row = losses_row(web, rooms, word)
                    told = [greatest_loss(web, rooms, own, word) for own in range(rooms, 6)]
                    cut = told.index(0) + 1 if 0 in told else len(told)
                    self.assertEqual(tuple(told[:cut]), row)
                    if word == "last used":
                        high = [10 ** 9 if number is None else number for number in row]
                        self.assertEqual(sorted(high, reverse=True), high)

    def test_order_of_errors(self):
        self.fails(InvalidWeb(-1), losses_row, 0, 0, 0)
        self.fails(InvalidRooms(-1), losses_row, line(3), 0, 0)
        for wrong in ("last", (1, ()), [1, []], None, True, ("last used",)):
            self.fails(InvalidRule(-1), losses_row, line(3), 2, wrong)
            self.fails(InvalidRule(-1), losses_row, whole(40), 5, wrong)
        self.fails(InvalidSize("standings"), losses_row, whole(8), 3, "last used")


if __name__ == "__main__":
    unittest.main()
