"""Promises 34 to 36."""

import random
import unittest
from functools import lru_cache
from itertools import combinations
from math import gcd

from slowshelves.blocks import web_shelf
from slowshelves.errors import (
    InvalidAnswers, InvalidIndex, InvalidLayout, InvalidPaper, InvalidRooms, InvalidShelf, InvalidSize, InvalidTrack, Refused,
)
from slowshelves.lists import folded_layout, folded_share, length_layout, list_share, tree_share
from slowshelves.shares import (
    core_blocks, forced_play, forced_row, least_share, room_shares, share_holds, share_paper, share_run, share_states,
)
from slowshelves.shelves import linked_cells, list_shelf, ring_shelf
from tests.support import ANY, Case, all_webs, bools_within, line, lists_within, parts_of, ring, unlike_webs, whole

HUGE = 10 ** 40


def alone(shelf):
    return tuple(range(shelf[0]))


def some_shelves():
    """(shelf, layout, rooms): small ones that hang together."""
    for web in [*all_webs(3), *unlike_webs(4)]:
        if web[0] > 1 and len(parts_of(web)) == 1:
            shelf = web_shelf(web)
            layouts = {alone(shelf), (0,) * web[0], tuple(cell // 2 for cell in range(web[0])), (0,) + (1,) * (web[0] - 1)}
            for layout in sorted(layouts):
                for rooms in (1, 2, 3, 5):
                    yield shelf, layout, rooms
    luck = random.Random(3)
    for _ in range(25):
        cells = luck.randint(5, 8)
        links = [(luck.randrange(cell), cell) for cell in range(1, cells)]
        links += [tuple(luck.sample(range(cells), 2)) for _ in range(luck.randint(0, 4))]
        shelf = (cells, tuple(("list", link) for link in links))
        layout = [luck.randrange(cells) for _ in range(cells)]
        yield shelf, tuple(list(dict.fromkeys(layout)).index(block) for block in layout), luck.randint(1, 3)


def states_by_eye(shelf, layout, rooms):
    found = set()
    for cell, block in enumerate(layout):
        others = set(layout) - {block}
        for many in range(rooms):
            found |= {(tuple(sorted((block,) + lot)), cell) for lot in combinations(sorted(others), many)}
    return tuple(sorted(found))


def answers_by_eye(layout, rooms, memory, cell):
    """(price, memories behind): what can be answered to a step to this cell."""
    block = layout[cell]
    if block in memory:
        return 0, [memory]
    if len(memory) < rooms:
        return 1, [tuple(sorted(memory + (block,)))]
    return 1, [tuple(sorted(set(memory) - {out} | {block})) for out in memory]


def forced_by_eye(shelf, layout, rooms):
    rows = linked_cells(shelf)

    @lru_cache(maxsize=None)
    def forced(memory, cell, steps):
        if steps == 0:
            return 0
        best = 0
        for other in rows[cell]:
            price, memories = answers_by_eye(layout, rooms, memory, other)
            best = max(best, price + min(forced(lot, other, steps - 1) for lot in memories))
        return best
    return forced


class TestForced(Case):
    def test_states(self):
        for shelf, layout, rooms in some_shelves():
            self.assertEqual(states_by_eye(shelf, layout, rooms), share_states(shelf, layout, rooms))
        self.gives((((0,), 0), ((0, 1), 0), ((0, 1), 1), ((1,), 1)), share_states, list_shelf(2), (7, 3), 2)
        self.assertEqual(12 * (1 + 11 + 55), len(self.tell(share_states, list_shelf(12), alone(list_shelf(12)), 3)))

    def test_rows_by_eye(self):
        for shelf, layout, rooms in some_shelves():
            forced = forced_by_eye(shelf, layout, rooms)
            states = share_states(shelf, layout, rooms)
            for steps in (0, 1, 2, 3, 7):
                wanted = tuple(forced(memory, cell, steps) for memory, cell in states)
                self.assertEqual(wanted, forced_row(shelf, layout, rooms, steps))

    def test_rows_grow_by_one_and_stay_close(self):
        for shelf, layout, rooms in some_shelves():
            rows = [forced_row(shelf, layout, rooms, steps) for steps in range(0, 14)]
            for row, longer in zip(rows, rows[1:]):
                self.assertTrue(all(0 <= more - less <= 1 for less, more in zip(row, longer)))
                self.assertLessEqual(max(row) - min(row), rooms + shelf[0] - 1)

    def test_told(self):
        self.gives((0, 0, 0, 0), forced_row, list_shelf(2), (0, 1), 2, 0)
        self.gives((1, 0, 0, 1), forced_row, list_shelf(2), (0, 1), 2, 100)
        self.gives((100, 100), forced_row, list_shelf(2), (0, 1), 1, 100)
        self.gives((0, 0), forced_row, list_shelf(2), (0, 0), 1, 100)
        self.assertEqual(804, len(forced_row(ring_shelf(12), alone(ring_shelf(12)), 3, 100)))


class TestPapers(Case):
    def paper_by_eye(self, shelf, layout, rooms, paper):
        moves, steps, low, high = paper
        self.assertEqual(1, gcd(moves, steps))
        states = states_by_eye(shelf, layout, rooms)
        low, high = dict(zip(states, low)), dict(zip(states, high))
        rows = linked_cells(shelf)
        for memory, cell in states:
            worths = []
            for other in rows[cell]:
                price, memories = answers_by_eye(layout, rooms, memory, other)
                worth = steps * price - moves
                self.assertLessEqual(min(worth + low[(lot, other)] for lot in memories), low[(memory, cell)])
                worths.append(min(worth + high[(lot, other)] for lot in memories))
            self.assertGreaterEqual(max(worths), high[(memory, cell)])

    def test_papers(self):
        for shelf, layout, rooms in some_shelves():
            paper = share_paper(shelf, layout, rooms)
            self.paper_by_eye(shelf, layout, rooms, paper)
            self.assertIs(True, share_holds(shelf, layout, rooms, paper))
            self.assertEqual(paper[:2], least_share(shelf, layout, rooms))
            row = forced_row(shelf, layout, rooms, 100)
            spread = rooms + shelf[0]
            for forced in row:
                self.assertLess(abs(forced * paper[1] - 100 * paper[0]), spread * paper[1])

    def test_shares_told_elsewhere(self):
        for lengths in ((1, 1, 1), (2, 1, 2), (1, 2, 1, 1), (3, 3, 3), (1, 1, 2, 1, 1, 1), (2, 2, 2, 2, 2, 2)):
            for rooms in (1, 2, 3):
                shelf = list_shelf(sum(lengths))
                self.gives(list_share(lengths, rooms), least_share, shelf, length_layout(lengths), rooms)
        for cells in range(3, 13):
            for room in (2, 3):
                for rooms in (1, 2, 3):
                    wanted = folded_share(cells, room, rooms)
                    self.gives(wanted, least_share, ring_shelf(cells), folded_layout(cells, room), rooms)
        for web in [*all_webs(4), *unlike_webs(5)]:
            if web[0] > 1 and len(parts_of(web)) == 1 and len(web[1]) == web[0] - 1:
                shelf = web_shelf(web)
                self.gives(tree_share(web)[:2], least_share, shelf, alone(shelf), 2)

    def test_great_ones(self):
        luck = random.Random(1)
        for shelf in (list_shelf(12), ring_shelf(12), web_shelf(whole(12)), (12, tuple(
                ("list", (luck.randrange(cell), cell)) for cell in range(1, 12)) + (("list", (3, 7)),))):
            for rooms in (1, 2, 3):
                paper = self.tell(share_paper, shelf, alone(shelf), rooms)
                self.paper_by_eye(shelf, alone(shelf), rooms, paper)
                self.holds(share_holds, shelf, alone(shelf), rooms, paper)
        self.gives((1, 1), least_share, web_shelf(whole(12)), alone(web_shelf(whole(12))), 3)

    def test_papers_that_are_let(self):
        for shelf, layout, rooms in [*some_shelves()][::5]:
            moves, steps, low, high = share_paper(shelf, layout, rooms)
            for more in (1, -7, HUGE):
                shifted = (moves, steps, tuple(height + more for height in low), tuple(height - 3 * more for height in high))
                self.holds(share_holds, shelf, layout, rooms, shifted)
            judge = (share_holds, shelf, layout, rooms)
            for factor in (0, 2, -1):
                self.fails_to_hold(*judge, (moves * factor, steps * factor, low, high))
            self.fails_to_hold(*judge, (moves + 1, steps, low, high))
            self.fails_to_hold(*judge, (moves, steps + 1, low, high))
            self.fails_to_hold(*judge, (moves, steps, low[:-1], high))
            self.fails_to_hold(*judge, (moves, steps, low + (0,), high))
            self.fails_to_hold(*judge, (moves, steps, low, high + (0,)))
            self.fails_to_hold(*judge, (moves, steps, low, high, ()))
            for at in range(len(low)):
                self.one_height_changed(shelf, layout, rooms, (moves, steps, low, high), at)

    def one_height_changed(self, shelf, layout, rooms, paper, at):
        for place in (2, 3):
            for more in (-HUGE, -1, 1, HUGE):
                heights = paper[place][:at] + (paper[place][at] + more,) + paper[place][at + 1:]
                changed = paper[:place] + (heights,) + paper[place + 1:]
                try:
                    self.paper_by_eye(shelf, layout, rooms, changed)
                    holds = True
                except AssertionError:
                    holds = False
                self.assertIs(holds, share_holds(shelf, layout, rooms, changed))

    def test_other_values_do_not_hold(self):
        for shelf, layout, rooms in ((list_shelf(3), (0, 1, 2), 2), (list_shelf(2), (0, 1), 1), (list_shelf(2), (0, 0), 1)):
            paper = share_paper(shelf, layout, rooms)
            self.refuses_all(share_holds, shelf, layout, rooms)
            for other in lists_within(paper) + bools_within(paper):
                self.fails_to_hold(share_holds, shelf, layout, rooms, other)
                self.fails(InvalidPaper(-1), share_run, shelf, layout, rooms, other, (0,))
            for value in ANY:
                for at in range(4):
                    if repr(value) != repr(paper[at]) and not (type(value) is int and value == paper[at]):
                        if not isinstance(value, tuple):
                            self.fails_to_hold(share_holds, shelf, layout, rooms, paper[:at] + (value,) + paper[at + 1:])
                self.fails(InvalidPaper(-1), forced_play, shelf, layout, rooms, value, ())
                if type(value) is not int:
                    heights = paper[2][:-1] + (value,)
                    self.fails_to_hold(share_holds, shelf, layout, rooms, paper[:2] + (heights, paper[3]))
                    self.fails_to_hold(share_holds, shelf, layout, rooms, paper[:3] + (heights,))


class TestRuns(Case):
    def some_way(self, luck, shelf, cells):
        rows = linked_cells(shelf)
        way = [luck.randrange(shelf[0])]
        while len(way) < cells:
            way.append(luck.choice(rows[way[-1]]))
        return tuple(way)

    def test_runs_keep_the_share(self):
        luck = random.Random(2)
        for shelf, layout, rooms in some_shelves():
            paper = share_paper(shelf, layout, rooms)
            for cells in (1, 2, 9, 60):
                way = self.some_way(luck, shelf, cells)
                run = share_run(shelf, layout, rooms, paper, way)
                self.run_by_eye(shelf, layout, rooms, paper, way, run)

    def run_by_eye(self, shelf, layout, rooms, paper, way, run):
        moves, steps, low, _ = paper
        low = dict(zip(states_by_eye(shelf, layout, rooms), low))
        self.assertEqual((len(way), (layout[way[0]],)), (len(run), run[0]))
        made = 0
        for at in range(1, len(way)):
            price, memories = answers_by_eye(layout, rooms, run[at - 1], way[at])
            self.assertIn(run[at], memories)
            worth = steps * price - moves
            self.assertLessEqual(worth + low[(run[at], way[at])], low[(run[at - 1], way[at - 1])])
            made += price
        least = max(low.values()) - min(low.values())
        self.assertLessEqual(made * steps, moves * (len(way) - 1) + least)

    def test_plays_force_the_share(self):
        luck = random.Random(4)
        for shelf, layout, rooms in some_shelves():
            paper = share_paper(shelf, layout, rooms)
            for answers in ((), (0,), (HUGE,) * 3, tuple(luck.randrange(HUGE) for _ in range(60)), (1,) * 60, [2, 0, 1] * 20):
                way, memories = forced_play(shelf, layout, rooms, paper, answers)
                self.play_by_eye(shelf, layout, rooms, paper, answers, way, memories)

    def play_by_eye(self, shelf, layout, rooms, paper, answers, way, memories):
        moves, steps, _, high = paper
        high = dict(zip(states_by_eye(shelf, layout, rooms), high))
        rows = linked_cells(shelf)
        self.assertEqual((len(answers) + 1,) * 2, (len(way), len(memories)))
        self.assertEqual((0, (layout[0],)), (way[0], memories[0]))
        for at, answer in enumerate(answers):
            memory, cell = memories[at], way[at + 1]
            self.assertIn(cell, rows[way[at]])
            price, behind = answers_by_eye(layout, rooms, memory, cell)
            for lot in behind:
                self.assertGreaterEqual(steps * price - moves + high[(lot, cell)], high[(memory, way[at])])
            if price and len(memory) == rooms:
                out = memory[answer % rooms]
                self.assertEqual(tuple(sorted(set(memory) - {out} | {layout[cell]})), memories[at + 1])
            else:
                self.assertEqual(behind[0], memories[at + 1])

    def test_told(self):
        shelf, layout = list_shelf(3), (0, 1, 2)
        paper = self.tell(share_paper, shelf, layout, 2)
        self.assertEqual((1, 2), paper[:2])
        self.assertEqual(((0,), (0, 1), (1, 2), (1, 2), (0, 1)), self.run_of(shelf, layout, 2, paper, (0, 1, 2, 1, 0)))
        self.assertEqual(((0,), ((0,),)), forced_play(shelf, layout, 2, paper, ()))
        self.assertEqual(((0,), ((0,),)), forced_play(shelf=shelf, layout=list(layout), rooms=2, paper=paper, answers=[]))

    def run_of(self, shelf, layout, rooms, paper, way):
        told = share_run(shelf, layout, rooms, paper, way)
        self.assertEqual(told, share_run(shelf, list(layout), rooms, paper, list(way)))
        return told

    def test_papers_of_others(self):
        shelf, layout = list_shelf(3), (0, 1, 2)
        paper = share_paper(shelf, layout, 2)
        for other in (share_paper(shelf, layout, 1), share_paper(list_shelf(4), (0, 1, 2, 3), 2), None, list(paper)):
            self.fails(InvalidPaper(-1), share_run, shelf, layout, 2, other, (0,))
            self.fails(InvalidPaper(-1), forced_play, shelf, layout, 2, other, ())
        shifted = paper[:2] + (tuple(height + HUGE for height in paper[2]), tuple(height - HUGE for height in paper[3]))
        self.run_by_eye(shelf, layout, 2, shifted, (0, 1, 2), share_run(shelf, layout, 2, shifted, (0, 1, 2)))
        way, memories = forced_play(shelf, layout, 2, shifted, (7,) * 9)
        self.play_by_eye(shelf, layout, 2, shifted, (7,) * 9, way, memories)

    def test_errors(self):
        shelf, layout = list_shelf(3), (0, 1, 2)
        paper = share_paper(shelf, layout, 2)
        self.fails(InvalidTrack(2), share_run, shelf, layout, 2, paper, (0, 1, 3))
        self.fails(InvalidTrack(1), share_run, shelf, layout, 2, paper, (0, 2))
        self.fails(InvalidTrack(1), share_run, shelf, layout, 2, paper, (0, 0))
        self.fails(InvalidTrack(-1), share_run, shelf, layout, 2, paper, ())
        self.fails(InvalidPaper(-1), share_run, shelf, layout, 2, None, ())
        self.fails(InvalidAnswers(2), forced_play, shelf, layout, 2, paper, (0, HUGE, -1, "bad"))
        self.fails(InvalidAnswers(-1), forced_play, shelf, layout, 2, paper, None)
        self.fails(InvalidPaper(-1), forced_play, shelf, layout, 2, None, None)

    def test_order_of_errors(self):
        apart = (4, (("list", (0, 1)), ("list", (2, 3))))
        great = list_shelf(71)
        one = list_shelf(1)
        for function, more in (
            (share_states, ()), (forced_row, (-1,)), (share_paper, ()), (least_share, ()), (share_holds, (None,)),
            (share_run, (None, None)), (forced_play, (None, None)),
        ):
            self.fails(InvalidShelf(-1), function, 0, 0, 0, *more)
            self.fails(InvalidLayout(-1), function, apart, 0, 0, *more)
            self.fails(InvalidRooms(-1), function, apart, (0, 1, 2, 3), 0, *more)
            self.fails(Refused(-1), function, apart, (0, 1, 2, 3), 5, *more)
            self.fails(Refused(-1), function, apart, (0, 1, 0, 1), 5, *more)
            self.fails(Refused(-1), function, one, (0,), 1, *more)
            self.fails(Refused(-1), function, (200, great[1]), tuple(range(200)), 5, *more)
            self.fails(InvalidSize("states"), function, great, alone(great), 2, *more)
            self.fails(InvalidSize("states"), function, list_shelf(12), alone(list_shelf(12)), 5, *more)
        self.fails(InvalidIndex(-1), forced_row, list_shelf(70), alone(list_shelf(70)), 2, -1)
        self.fails(InvalidIndex(-1), forced_row, list_shelf(3), (0, 1, 2), 2, 101)
        self.assertEqual(4900, len(share_states(list_shelf(70), alone(list_shelf(70)), 2)))
        self.assertEqual(5000, len(share_states(list_shelf(200), tuple(min(cell, 24) for cell in range(200)), 2)))
        self.fails(InvalidSize("states"), share_states, list_shelf(200), tuple(min(cell, 25) for cell in range(200)), 2)


class TestRooms(Case):
    def test_shares_for_each_number_of_rooms(self):
        for web in [*all_webs(4), *unlike_webs(5)]:
            if web[0] > 1 and len(parts_of(web)) == 1:
                shelf = web_shelf(web)
                shares = room_shares(shelf, alone(shelf))
                self.assertEqual(web[0] - 1, len(shares))
                for rooms, (moves, steps) in enumerate(shares, 1):
                    self.assertEqual((moves, steps), least_share(shelf, alone(shelf), rooms))
                    self.assertGreater(moves, 0)
                self.assertEqual((0, 1), least_share(shelf, alone(shelf), web[0]))
                for (moves, steps), (less, more) in zip(shares, shares[1:]):
                    self.assertLessEqual(less * steps, moves * more)

    def test_told(self):
        self.gives((), room_shares, list_shelf(2), (5, 5))
        self.gives(((1, 1),), room_shares, list_shelf(2), (5, 6))
        self.gives(((1, 1), (1, 2)), room_shares, list_shelf(3), (0, 1, 2))
        self.gives(((1, 1),) * 5, room_shares, web_shelf(whole(6)), (0, 1, 2, 3, 4, 5))
        self.assertEqual(5, len(self.tell(room_shares, ring_shelf(12), folded_layout(12, 2))))

    def test_one_more_chain(self):
        luck = random.Random(5)
        for shelf, layout, rooms in some_shelves():
            moves, steps = least_share(shelf, layout, rooms)
            chain = ("list", tuple(luck.sample(range(shelf[0]), luck.randint(1, shelf[0]))))
            more, whole_steps = least_share((shelf[0], shelf[1] + (chain,)), layout, rooms)
            self.assertLessEqual(moves * whole_steps, more * steps)

    def test_errors(self):
        apart = (4, (("list", (0, 1)), ("list", (2, 3))))
        self.fails(Refused(-1), room_shares, apart, (0, 1, 2, 3))
        self.fails(Refused(-1), room_shares, list_shelf(1), (0,))
        self.fails(Refused(-1), room_shares, (8, apart[1]), tuple(range(8)))
        self.fails(InvalidSize("blocks"), room_shares, list_shelf(7), tuple(range(7)))
        self.fails(InvalidSize("blocks"), room_shares, list_shelf(71), alone(list_shelf(71)))
        self.fails(InvalidSize("states"), room_shares, list_shelf(200), tuple(cell // 34 for cell in range(200)))
        self.fails(InvalidLayout(2), room_shares, apart, (0, 1, 200, 3))
        self.gives((), room_shares, list_shelf(200), (0,) * 200)

    def test_cores(self):
        for web in [*all_webs(4), *unlike_webs(5)]:
            for rooms in range(1, 6):
                lots = [lot for many in range(web[0] + 1) for lot in combinations(range(web[0]), many) if self.is_core(web, rooms, lot)]
                core = self.tell(core_blocks, web, rooms)
                self.assertEqual(max(lots, key=len), core)
                if core and len(parts_of(web)) == 1:
                    self.assertEqual((1, 1), least_share(web_shelf(web), alone(web), rooms))
        self.gives(tuple(range(40)), core_blocks, whole(40), 5)
        self.gives(tuple(range(40)), core_blocks, ring(40), 2)
        self.gives((), core_blocks, ring(40), 3)
        self.gives((), core_blocks, line(40), 2)
        self.gives((0, 1), core_blocks, (3, ((0, 1),)), 1)

    def is_core(self, web, rooms, lot):
        return all(sum(block in link and set(link) <= set(lot) for link in web[1]) >= rooms for block in lot)


if __name__ == "__main__":
    unittest.main()
