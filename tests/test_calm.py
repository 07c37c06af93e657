"""Promises 28 and 29, and the rows of the document that they answer."""

import unittest
from functools import lru_cache
from itertools import combinations, permutations

from slowshelves.calm import calm_holds, calm_paper, calm_rooms, is_calm, safe_begins
from slowshelves.errors import InvalidSize
from tests.support import (
    ANY, Case, all_webs, bools_within, calm_by_words, last_used_moves, least_moves, line, lists_within, parts_of, ring,
    rows_of, unlike_webs, walks_of, whole,
)

STAR = (4, ((0, 1), (0, 2), (0, 3)))


def can_stay(web, rooms, memory, place, steps):
    """Whether a rule that begins so can keep up with hindsight for so many steps, by going through all.

    Hindsight is told by how many moves more than the rule it has at the least, for each memory.
    """
    rows = rows_of(web)

    @lru_cache(maxsize=None)
    def lasts(memory, place, leads, left):
        if min(moves for _, moves in leads) < 0:
            return False
        return left == 0 or all(any(lasts(*choice, left - 1) for choice in touched(memory, block, leads))
                                for block in rows[place])

    def touched(memory, block, leads):
        paid = block not in memory
        least = {}
        for lot, moves in leads:
            for after in behind(lot, block):
                cost = moves + (block not in lot) - paid
                least[after] = min(cost, least.get(after, cost))
        # A lead of more than the rooms is never caught up with: memories that far off are as good as none.
        kept = frozenset((lot, min(moves, rooms + 1)) for lot, moves in least.items())
        return [(after, block, kept) for after in behind(memory, block)]

    def behind(lot, block):
        if block in lot:
            return [lot]
        if len(lot) < rooms:
            return [tuple(sorted(lot + (block,)))]
        return [tuple(sorted(set(lot) - {out} | {block})) for out in lot]

    return lasts(memory, place, frozenset([(memory, 0)]), steps)


class TestCalm(Case):
    def test_rows_of_the_document(self):
        star = (4, ((0, 1), (0, 2), (0, 3)))
        self.assertEqual(((1, 2, 4, 5), "fork"), (calm_rooms(star), calm_paper(star, 3)[0]))
        self.gives((1, 2, 4, 5), calm_rooms, star)

    def test_told_numbers(self):
        self.gives((1, 2, 3, 4, 5), calm_rooms, line(40))
        self.gives((1, 2, 3, 4, 5), calm_rooms, (40, ()))
        self.gives((1, 2, 3, 4, 5), calm_rooms, (1, ()))
        self.gives((1,), calm_rooms, ring(40))
        self.gives((1,), calm_rooms, ring(6))
        self.gives((1, 5), calm_rooms, ring(5))
        self.gives((1, 3, 4, 5), calm_rooms, ring(3))
        self.gives((1, 4, 5), calm_rooms, whole(4))
        self.gives((1,), calm_rooms, whole(40))
        self.gives((1, 2), calm_rooms, (6, tuple((0, block) for block in range(1, 6))))

    def test_parts_of_as_many_blocks_as_rooms_and_of_one_more(self):
        for rooms in range(2, 6):
            self.assertIs(True, is_calm(whole(rooms), rooms))
            self.assertIs(False, is_calm(whole(rooms + 1), rooms))
            two = (2 * rooms, whole(rooms)[1] + tuple((a + rooms, b + rooms) for a, b in whole(rooms)[1]))
            self.gives(("calm", ()), calm_paper, two, rooms)
            self.gives(True, is_calm, two, rooms)

    def test_papers_hold_for_all_small_webs(self):
        for web in [*all_webs(4), *unlike_webs(5), *unlike_webs(6)]:
            for rooms in range(1, 6):
                paper = calm_paper(web, rooms)
                calm = calm_by_words(web, rooms)
                self.assertIs(True, calm_holds(web, rooms, paper), (web, rooms, paper))
                self.assertEqual(calm, paper[0] == "calm")
                self.assertIs(calm, is_calm(web, rooms))
                self.assertEqual(calm, rooms in calm_rooms(web))

    def test_just_one_kind_has_papers(self):
        for web in [*all_webs(4), *unlike_webs(5)]:
            for rooms in range(1, 6):
                calm = calm_by_words(web, rooms)
                rows = [row for many in range(web[0] + 1) for row in permutations(range(web[0]), many)]
                for row in rows:
                    for kind in ("fork", "ring"):
                        if calm_holds(web, rooms, (kind, row)):
                            self.assertFalse(calm, (web, rooms, kind, row))
                    if rooms > 1 and len(row) > rooms and calm_holds(web, rooms, ("calm", (row,))):
                        self.assertTrue(calm, (web, rooms, row))
                self.assertEqual(calm and not [part for part in parts_of(web) if len(part) > rooms > 1],
                                 calm_holds(web, rooms, ("calm", ())))

    def test_calm_exactly_if_some_rule_is_never_behind(self):
        for web in [*all_webs(3), *unlike_webs(4)]:
            for rooms in range(1, 4):
                kept = all(can_stay(web, rooms, (block,), block, 9) for block in range(web[0]))
                self.assertEqual(kept, is_calm(web, rooms), (web, rooms))

    def test_on_calm_webs_last_used_is_never_behind(self):
        for web in [*all_webs(3), *unlike_webs(4), *unlike_webs(5)]:
            for rooms in range(1, 5):
                behind = [last_used_moves(walk, rooms) - least_moves(walk, rooms) for walk in walks_of(web, 6)]
                if is_calm(web, rooms):
                    self.assertEqual({0}, set(behind) | {0}, (web, rooms))

    def test_on_others_last_used_falls_behind(self):
        for web in [*all_webs(3), *unlike_webs(4)]:
            for rooms in (2, 3):
                behind = [last_used_moves(walk, rooms) - least_moves(walk, rooms) for walk in walks_of(web, 8)]
                self.assertEqual(not is_calm(web, rooms), max(behind, default=0) > 0, (web, rooms))

    def test_forty_blocks(self):
        binary = (40, tuple(((block - 1) // 2, block) for block in range(1, 40)))
        for web in (line(40), ring(40), whole(40), binary, (40, ring(39)[1])):
            for rooms in range(1, 6):
                self.holds(calm_holds, web, rooms, self.tell(calm_paper, web, rooms))
        self.gives((1, 2), calm_rooms, binary)
        self.assertEqual(39, len(calm_paper((40, ring(39)[1]), 3)[1]))

    def test_a_paper_of_several_parts(self):
        web = (8, ((0, 2), (2, 4), (4, 6), (1, 3), (3, 5), (5, 7)))
        self.holds(calm_holds, web, 3, ("calm", ((0, 2, 4, 6), (7, 5, 3, 1))))
        self.holds(calm_holds, web, 2, ("calm", ((2, 4, 0, 6), (7, 5, 3, 1))))
        self.fails_to_hold(calm_holds, web, 3, ("calm", ((2, 4, 0, 6), (7, 5, 3, 1))))
        self.fails_to_hold(calm_holds, web, 3, ("calm", ((7, 5, 3, 1), (0, 2, 4, 6))))
        self.fails_to_hold(calm_holds, web, 3, ("calm", ((0, 2, 4, 6),)))
        self.fails_to_hold(calm_holds, web, 3, ("calm", ((0, 2, 4, 6), (7, 5, 3))))
        self.fails_to_hold(calm_holds, web, 3, ("calm", ((0, 2, 4, 6), (7, 5, 3, 1), ())))
        self.holds(calm_holds, web, 4, ("calm", ()))
        self.fails_to_hold(calm_holds, web, 4, ("calm", ((0, 2, 4, 6), (7, 5, 3, 1))))
        self.holds(calm_holds, web, 1, ("calm", ()))
        self.fails_to_hold(calm_holds, web, 1, ("calm", ((0, 2, 4, 6), (7, 5, 3, 1))))

    def test_papers_that_are_let(self):
        self.holds(calm_holds, STAR, 3, ("fork", (3, 0, 2, 1)))
        self.fails_to_hold(calm_holds, STAR, 3, ("fork", (3, 2, 0, 1)))
        self.holds(calm_holds, whole(4), 2, ("fork", (3, 0, 2)))
        self.holds(calm_holds, whole(4), 2, ("ring", (3, 0, 2)))
        self.fails_to_hold(calm_holds, whole(4), 2, ("ring", (3, 0, 2, 1)))
        self.fails_to_hold(calm_holds, whole(4), 3, ("ring", (3, 0, 2)))
        self.holds(calm_holds, ring(4), 3, ("ring", (2, 1, 0, 3)))
        self.holds(calm_holds, ring(4), 3, ("fork", (2, 1, 0, 3)))
        self.holds(calm_holds, ring(5), 4, ("fork", (2, 1, 0, 3, 4)))
        self.fails_to_hold(calm_holds, ring(5), 3, ("fork", (2, 1, 0, 3)))
        self.fails_to_hold(calm_holds, ring(5), 5, ("ring", (0, 1, 2, 3, 4)))
        self.fails_to_hold(calm_holds, ring(4), 1, ("ring", (0, 1, 2, 3)))
        self.fails_to_hold(calm_holds, whole(2), 1, ("fork", (0, 1)))
        self.fails_to_hold(calm_holds, ring(4), 3, ("ring", (2, 1, 3, 0)))
        self.fails_to_hold(calm_holds, ring(4), 3, ("ring", (0, 1, 2, 3, 0)))
        self.fails_to_hold(calm_holds, ring(4), 3, ("ring", (0, 1, 2, 4)))
        self.fails_to_hold(calm_holds, line(3), 2, ("ring", (0, 1, 2)))
        self.fails_to_hold(calm_holds, line(3), 2, ("fork", (0, 1, 2)))

    def test_papers_with_lists_or_bools_within_do_not_hold(self):
        for web, rooms in ((STAR, 2), (STAR, 3), (ring(5), 3), (line(6), 3), (line(6), 1), (whole(3), 2)):
            paper = calm_paper(web, rooms)
            for other in lists_within(paper) + bools_within(paper):
                self.fails_to_hold(calm_holds, web, rooms, other)
            for more in ((), (0,), ("calm",)):
                self.fails_to_hold(calm_holds, web, rooms, paper + more + (1,))

    def test_other_values_do_not_hold(self):
        self.refuses_all(calm_holds, STAR, 3)
        for value in ANY:
            self.assertIs(value == ("calm", ()) and value.__class__ is tuple and value[1].__class__ is tuple,
                          calm_holds(STAR, 5, value))
            self.fails_to_hold(calm_holds, STAR, 3, ("fork", value))
            self.fails_to_hold(calm_holds, STAR, 2, ("calm", value))
            self.fails_to_hold(calm_holds, STAR, 2, ("calm", (value,)))
            if value != "calm":
                self.fails_to_hold(calm_holds, STAR, 2, (value, ((0, 1, 2, 3),)))
            if value != "ring":
                self.fails_to_hold(calm_holds, ring(5), 3, (value, (0, 1, 2, 3, 4)))
            self.fails_to_hold(calm_holds, ring(5), 3, ("ring", (0, 1, 2, 3, value)))


class TestSafe(Case):
    def test_small_webs_by_going_through_all(self):
        for web in [*all_webs(3), *unlike_webs(4)]:
            for rooms in range(1, 4):
                safe = [
                    (lot, place)
                    for lot in combinations(range(web[0]), rooms)
                    for place in lot
                    if can_stay(web, rooms, lot, place, 9)
                ]
                self.gives(tuple(safe), safe_begins, web, rooms)

    def test_lots_of_a_big_part_that_hang_together(self):
        for web in [*all_webs(4), *unlike_webs(5)]:
            for rooms in range(1, 6):
                safe = safe_begins(web, rooms)
                for part in parts_of(web):
                    if len(part) <= rooms:
                        continue
                    lots = [lot for lot in combinations(part, rooms) if self.hangs_together(web, lot)]
                    begins = [(lot, place) for lot in lots for place in lot]
                    inner = (len(part), tuple((part.index(a), part.index(b)) for a, b in web[1] if a in part))
                    count = len([begin for begin in begins if begin in safe])
                    self.assertEqual(len(begins) if is_calm(inner, rooms) else 0, count, (web, rooms, part))

    def hangs_together(self, web, lot):
        inner = (len(lot), tuple((lot.index(a), lot.index(b)) for a, b in web[1] if a in lot and b in lot))
        return len(parts_of(inner)) == 1

    def test_told(self):
        self.gives((((0, 1), 0), ((0, 1), 1), ((1, 2), 1), ((1, 2), 2)), safe_begins, line(3), 2)
        self.gives((), safe_begins, line(3), 4)
        self.gives((), safe_begins, STAR, 3)
        self.gives((((0, 1, 2), 0), ((0, 1, 2), 1), ((0, 1, 2), 2)), safe_begins, whole(3), 3)
        self.gives(tuple(((block,), block) for block in range(5)), safe_begins, whole(5), 1)

    def test_others_can_be_safe_or_not(self):
        web = (4, ((0, 1), (1, 2)))
        self.assertIn(((2, 3), 3), safe_begins(web, 2))
        self.assertNotIn(((0, 2), 0), safe_begins(web, 2))

    def test_five_blocks_and_more(self):
        for web in unlike_webs(5):
            for rooms in range(1, 6):
                safe = self.tell(safe_begins, web, rooms)
                self.assertEqual(sorted(set(safe)), list(safe))
        self.fails(InvalidSize("blocks"), safe_begins, (6, ()), 2)
        self.fails(InvalidSize("blocks"), safe_begins, whole(7), 5)


if __name__ == "__main__":
    unittest.main()
