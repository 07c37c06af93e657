"""Promise 24."""

import random
import unittest
from itertools import combinations_with_replacement, product

from slowshelves.cursors import is_weave_calm, weave_holds, weave_paper, weave_touches
from slowshelves.errors import InvalidBegins, InvalidRooms, InvalidRule, InvalidWeave, InvalidWeb
from slowshelves.hindsight import least_moves
from slowshelves.rules import rule_moves
from tests import support
from tests.support import ANY, Case, all_webs, bools_within, line, lists_within, parts_of, ring, rows_of, unlike_webs, whole
from tests.test_rules import random_table

STAR = (4, ((0, 1), (0, 2), (0, 3)))
APART = (6, ((0, 1), (2, 3), (4, 5)))


def is_weave(web, begins, weave):
    rows, places = rows_of(web), {}
    for cursor, block in weave:
        if cursor not in range(len(begins)) or block not in range(web[0]):
            return False
        if cursor not in places and block != begins[cursor]:
            return False
        if cursor in places and block != places[cursor] and block not in rows[places[cursor]]:
            return False
        places[cursor] = block
    return 1 <= len(weave) <= 400


def weaves_of(web, begins, pairs):
    """All weaves of so many pairs."""
    rows = rows_of(web)
    weaves = [((), {})]
    for _ in range(pairs):
        longer = []
        for weave, places in weaves:
            for cursor, begin in enumerate(begins):
                blocks = [begin] if cursor not in places else sorted({places[cursor]} | rows[places[cursor]])
                longer += [(weave + ((cursor, block),), {**places, cursor: block}) for block in blocks]
        weaves = longer
    return [weave for weave, _ in weaves]


def struck(blocks):
    return tuple(block for at, block in enumerate(blocks) if at == 0 or blocks[at - 1] != block)


def calm_by_eye(web, rooms, begins):
    reached = {block for part in parts_of(web) for block in part if set(begins) & set(part)}
    return rooms == 1 or len(reached) <= rooms


def all_begins(web):
    for many in (2, 3):
        yield from combinations_with_replacement(range(web[0]), many)


class TestCursors(Case):
    def test_told(self):
        self.gives((0, 1, 2), weave_touches, line(3), (0, 1), ((0, 0), (1, 1), (0, 1), (1, 2), (1, 2)))
        self.gives((1,), weave_touches, line(3), (0, 1), [[1, 1]])
        self.gives(True, is_weave_calm, line(3), 3, (0, 2))
        self.gives(False, is_weave_calm, line(3), 2, (0, 0))
        self.gives(True, is_weave_calm, line(40), 1, (0, 39))
        self.gives(False, is_weave_calm, line(40), 5, (0, 39))
        self.gives(True, is_weave_calm, APART, 4, (0, 3, 1))
        self.gives(False, is_weave_calm, APART, 5, (0, 3, 1, 4))
        self.gives(("calm",), weave_paper, APART, 4, (0, 3, 1), "first in")
        self.assertEqual("weave", self.tell(weave_paper, APART, 3, (0, 3, 1), "first in")[0])

    def paper(self, web, rooms, begins, rule):
        paper = weave_paper(web, rooms, begins, rule)
        self.assertTrue(support.is_told(paper))
        self.assertEqual(calm_by_eye(web, rooms, begins), is_weave_calm(web, rooms, begins))
        if calm_by_eye(web, rooms, begins):
            self.assertEqual(("calm",), paper)
        else:
            kind, weave = paper
            self.assertEqual("weave", kind)
            self.assertTrue(is_weave(web, begins, weave), (web, begins, weave))
            touches = struck([block for _, block in weave])
            self.assertEqual(touches, weave_touches(web, begins, weave))
            self.assertGreater(rule_moves(rooms, rule, touches), support.least_moves(touches, rooms))
        self.assertIs(True, weave_holds(web, rooms, begins, rule, paper))

    def test_small_webs(self):
        luck = random.Random(1)
        for web in [*all_webs(3), *unlike_webs(4)]:
            for begins in all_begins(web):
                for rooms in range(1, 6):
                    for rule in ("last used", "first in", (1, ()), random_table(luck, web, rooms, 3, 20)):
                        self.paper(web, rooms, begins, rule)

    def test_greater_webs(self):
        luck = random.Random(2)
        for web in [*unlike_webs(5), *list(unlike_webs(6))[::3], line(40), ring(40), whole(40), (40, ())]:
            for rooms in range(1, 6):
                for _ in range(3 if web[0] < 7 else 12):
                    begins = tuple(luck.randrange(web[0]) for _ in range(luck.randint(2, 4)))
                    for rule in ("last used", "first in", random_table(luck, (6, web[1]) if web[0] < 7 else line(6), rooms, 3, 20)):
                        self.paper(web, rooms, begins, rule)
                        self.paper(web, rooms, begins[:1] * 3, rule)

    def test_rules_of_the_greatest_size(self):
        luck = random.Random(3)
        for web, rooms, begins in ((whole(6), 5, (0, 0)), (whole(6), 4, (1, 5, 3)), (line(6), 5, (2, 2, 2, 2))):
            rule = random_table(luck, web, rooms, 720, 2000)
            self.paper(web, rooms, begins, rule)

    def test_calm_exactly_if_some_rule_is_never_behind(self):
        """Of each web that is calm any rule is never behind on all short weaves; else each has a weave."""
        for web in [*all_webs(3), *unlike_webs(4)]:
            for begins in combinations_with_replacement(range(web[0]), 2):
                for rooms in (1, 2, 3, 4):
                    if calm_by_eye(web, rooms, begins):
                        for weave in weaves_of(web, begins, 4):
                            touches = weave_touches(web, begins, weave)
                            for rule in ("last used", "first in", (1, ())):
                                self.assertEqual(least_moves(touches, rooms), rule_moves(rooms, rule, touches))

    def test_no_way_to_answer_is_good(self):
        """Whatever goes out on short weaves, some weave of two cursors goes on with a move too many."""
        for web, rooms, begins in ((line(3), 2, (0, 0)), (line(3), 2, (0, 2)), (line(3), 2, (1, 1)), ((3, ((0, 1),)), 2, (0, 2)), (whole(3), 2, (0, 1))):
            weaves = {weave_touches(web, begins, weave) for pairs in range(3, 8) for weave in weaves_of(web, begins, pairs)}
            self.assertFalse(self.some_answers(rooms, weaves, (), (), 0))

    def some_answers(self, rooms, walks, walk, memory, moves):
        """Whether some answers are never behind on these walks, going on from this beginning."""
        if walk in walks and moves > least_moves(walk, rooms):
            return False
        for block in sorted({other[len(walk)] for other in walks if other[:len(walk)] == walk and len(other) > len(walk)}):
            on = [other for other in walks if other[:len(walk) + 1] == walk + (block,)]
            if block in memory:
                kept = [memory]
            elif len(memory) < rooms:
                kept = [memory + (block,)]
            else:
                kept = [tuple(other for other in memory if other != out) + (block,) for out in memory]
            if not any(self.some_answers(rooms, on, walk + (block,), other, moves + (block not in memory)) for other in kept):
                return False
        return True

    def test_judge_on_all_short_weaves(self):
        for web, rooms, begins in ((line(3), 2, (0, 0)), (APART, 2, (0, 2)), (line(3), 3, (0, 2)), (line(3), 1, (0, 2)), (STAR, 2, (1, 2))):
            for weave in product(product(range(2), range(min(web[0], 3))), repeat=4):
                for rule in ("last used", "first in"):
                    touches = struck([block for _, block in weave])
                    good = is_weave(web, begins, weave) and rule_moves(rooms, rule, touches) > least_moves(touches, rooms)
                    self.assertIs(good, weave_holds(web, rooms, begins, rule, ("weave", weave)))

    def test_changed_papers(self):
        for web, rooms, begins, rule in ((line(4), 2, (0, 0), "last used"), (APART, 3, (0, 2, 4), "first in"), (STAR, 3, (1, 2), (1, ()))):
            paper = weave_paper(web, rooms, begins, rule)
            weave = paper[1]
            judge = (weave_holds, web, rooms, begins, rule)
            self.holds(*judge, paper)
            self.refuses_all(*judge)
            wrong = lists_within(paper) + bools_within(paper) + [("calm",), paper[:1], paper + ((),), paper[1], (paper,)]
            wrong += [(word, weave) for word in ANY + ("Weave",)] + [("weave", value) for value in ANY]
            wrong += [("weave", weave[:-1]), ("weave", ()), ("weave", weave[:1] * 401)]
            for at in range(len(weave)):
                values = [value for value in ANY if not self.is_number_pair(value)]
                values += [(4, 0), (-1, 0), (0, web[0]), (0, -1), weave[at] + (0,), weave[at][:1]]
                wrong += [("weave", weave[:at] + (value,) + weave[at + 1:]) for value in values]
            for value in wrong:
                self.fails_to_hold(*judge, value)
        for web, rooms, begins in ((line(3), 3, (0, 2)), (line(3), 1, (0, 2))):
            self.holds(weave_holds, web, rooms, begins, "first in", ("calm",))
            for value in (["calm"], ("calm", ()), "calm", (("calm",),), (True,), ("weave", ((0, 0), (1, 2)))):
                self.fails_to_hold(weave_holds, web, rooms, begins, "first in", value)
            for value in ANY:
                if value != ("calm",):
                    self.fails_to_hold(weave_holds, web, rooms, begins, "first in", value)

    def is_number_pair(self, value):
        return isinstance(value, tuple) and len(value) == 2 and all(type(item) is int and item >= 0 for item in value)

    def test_longest_weaves(self):
        weave = ((0, 0), (1, 0), (0, 1), (0, 2), (1, 0)) + ((0, 2),) * 395
        self.gives((0, 1, 2, 0, 2), weave_touches, line(3), (0, 0), weave)
        self.holds(weave_holds, line(3), 2, (0, 0), "last used", ("weave", weave))
        self.fails_to_hold(weave_holds, line(3), 2, (0, 0), "last used", ("weave", weave + ((0, 2),)))
        self.fails(InvalidWeave(-1), weave_touches, line(3), (0, 0), weave + ((0, 2),))

    def test_order_of_errors(self):
        for function, more in ((weave_paper, (0,)), (weave_holds, (0, 0)), (is_weave_calm, ())):
            self.fails(InvalidWeb(-1), function, (0, ()), 0, 0, *more)
            self.fails(InvalidRooms(-1), function, line(3), 0, 0, *more)
            self.fails(InvalidBegins(-1), function, line(3), 1, 0, *more)
            self.fails(InvalidBegins(-1), function, line(3), 1, (0,) * 5, *more)
            self.fails(InvalidBegins(1), function, line(3), 1, (0, 3, True), *more)
        for function, more in ((weave_paper, ()), (weave_holds, (0,))):
            self.fails(InvalidRule(-1), function, line(3), 1, (0, 0), "last", *more)
            self.fails(InvalidRule(0), function, line(3), 1, (0, 0), (1, ((0, (0, 1), 0, 2, 0, 0),)), *more)
        self.fails(InvalidWeb(0), weave_touches, (2, ((0, 0),)), 0, 0)
        self.fails(InvalidBegins(0), weave_touches, line(3), (3, 3), 0)
        self.fails(InvalidWeave(0), weave_touches, line(3), (0, 1), ((0, 1), "bad"))
        self.fails(InvalidWeave(2), weave_touches, line(3), (0, 1), ((0, 0), (1, 1), (0, 2)))


if __name__ == "__main__":
    unittest.main()
