"""Promise 48, and what 28, 31, 32, 35, 39 to 41 and 43 say, as they are asked of a house."""

import random
import unittest
from itertools import product

from slowshelves.ahead import ahead_needed
from slowshelves.calm import calm_paper, is_calm
from slowshelves.crossings import grid_shelf
from slowshelves.endless import beaten_holds, beaten_walk
from slowshelves.errors import InvalidCommand, InvalidHouse, InvalidSize, InvalidTrack, Refused, ShelfError
from slowshelves.house import House, deed_done
from slowshelves.levels import laid_holds
from slowshelves.looks import look, look_holds, walked
from slowshelves.loss import loss_holds, loss_paper, quotient_holds, quotient_paper
from slowshelves.rules import rule_moves
from slowshelves.shares import share_holds, share_paper
from slowshelves.shelves import linked_cells
from tests.support import ANY, Case, bools_within, form, least_moves, lists_within
from tests.wrongs import HOUSE, KINDS, LAYOUT, OBJECTS, SHELF

WORDS = ("calm", "laid", "beaten", "loss", "quotient", "ahead", "share")
RING = House((4, (("ring", (0, 1, 2, 3)),)), 2, (0, 1, 2, 3), 2, "last used")
LINE = House((5, (("list", (0, 1, 2, 3, 4)),)), 2, (0, 0, 1, 1, 2), 2, "last used")
STAR = House((4, (("list", (0, 1)), ("list", (0, 2)), ("list", (0, 3)))), 1, (0, 1, 2, 3), 3, (1, ()))
ALONE = House((3, ()), 1, (0, 1, 2), 2, "first in")


def some_houses():
    luck = random.Random(1)
    shapes = [RING, LINE, STAR, ALONE, HOUSE, House((1, ()), 1, (0,), 5, "last used")]
    for _ in range(40):
        cells = luck.randint(2, 6)
        row = luck.sample(range(cells), luck.randint(2, cells))
        chains = [("list", luck.sample(range(cells), luck.randint(1, cells))), ("list" if len(row) < 3 else "ring", row)]
        layout = [luck.randrange(cells) for _ in range(cells)]
        rule = luck.choice(("last used", "first in", (1, ()), (2, ((0, (), -1, 0, 1, -1), (1, (0,), 0, 1, 0, -1)))))
        shapes.append(House((cells, chains), max(layout.count(block) for block in layout), layout, luck.randint(2, 4), rule))
    return shapes


def some_tracks(luck, house, many, most):
    rows = linked_cells(house.shelf)
    for _ in range(many):
        track = [luck.randrange(house.shelf[0])]
        for _ in range(luck.randrange(most)):
            beside = [cell for cell in range(house.shelf[0])
                      if cell in rows[track[-1]] or house.layout[cell] == house.layout[track[-1]]]
            track.append(luck.choice(beside))
        yield tuple(track)


class TestLooks(Case):
    def test_told(self):
        self.gives(("walked", (0, 1, 2, 3, 0), (0, 1, 2, 3, 0), 5, 4), walked, RING, (0, 1, 2, 3, 0))
        self.gives(("walked", (1, 1, 2, 3, 4), (0, 1, 2), 3, 3), walked, LINE, [1, 1, 2, 3, 4])
        self.gives(("calm", ("calm", ((0, 1, 2),))), look, LINE, "calm")
        self.assertEqual("ring", self.tell(look, RING, "calm")[1][0])
        self.gives(("ahead", 1), look, House(RING.shelf, 2, (0, 1, 2, 3), 2, "first in"), "ahead")
        self.gives(("ahead", None), look, STAR, "ahead")
        self.gives(("ahead", 0), look, LINE, "ahead")
        self.assertEqual(("share", (1, 3)), (lambda word, answer: (word, answer[:2]))(*self.tell(look, LINE, "share")))
        self.assertEqual("most", self.tell(look, LINE, "loss")[1][0])
        self.assertEqual("endless", self.tell(look, STAR, "loss")[1][0])

    def test_walked(self):
        luck = random.Random(2)
        for house in some_houses():
            for track in some_tracks(luck, house, 8, 60):
                told = self.tell(walked, house, track)
                blocks = [house.layout[cell] for cell in track]
                walk = tuple(block for at, block in enumerate(blocks) if at == 0 or blocks[at - 1] != block)
                self.assertEqual(("walked", track, walk, rule_moves(house.rooms, house.rule, walk), least_moves(walk, house.rooms)), told)
                self.assertIs(True, look_holds(house, told))
        self.assertEqual(400, len(walked(LINE, (0, 1) * 200)[1]))
        self.fails(InvalidTrack(-1), walked, LINE, (0, 1) * 200 + (0,))
        self.fails(InvalidTrack(-1), walked, LINE, ("bad",) * 401)
        self.fails(InvalidTrack(400 - 1), walked, LINE, (0, 1) * 199 + (0, 3))
        self.fails(InvalidTrack(-1), walked, LINE, ())
        self.fails(InvalidTrack(1), walked, LINE, (0, 2))

    def test_answers(self):
        for house in some_houses():
            shelf, layout, room, web, rooms, rule = house.shelf, house.layout, house.room, house.web, house.rooms, house.rule
            told = {
                "calm": lambda: calm_paper(web, rooms),
                "beaten": lambda: beaten_walk(web, rooms, rule, 1),
                "loss": lambda: loss_paper(web, rooms, rooms, rule),
                "quotient": lambda: quotient_paper(web, rooms, rooms, rule),
                "ahead": lambda: ahead_needed(web, rooms),
                "share": lambda: share_paper(shelf, layout, rooms),
            }
            judges = {
                "laid": lambda answer: laid_holds(shelf, room, rooms, answer),
                "beaten": lambda answer: beaten_holds(web, rooms, rule, 1, answer),
                "loss": lambda answer: loss_holds(web, rooms, rooms, rule, answer),
                "quotient": lambda answer: quotient_holds(web, rooms, rooms, rule, answer),
                "share": lambda answer: share_holds(shelf, layout, rooms, answer),
            }
            for word in WORDS:
                try:
                    answer = told.get(word, lambda: look(house, "laid")[1])()
                except ShelfError as error:
                    self.fails(error, look, house, word)
                    self.assertIn(word, ("beaten", "share"))
                    continue
                self.gives((word, answer), look, house, word)
                self.assertIs(True, look_holds(house, (word, answer)))
                if word in judges:
                    self.assertIs(True, judges[word](answer))

    def test_what_always_holds(self):
        luck = random.Random(3)
        for house in some_houses():
            calm = is_calm(house.web, house.rooms)
            self.assertEqual(calm, look(house, "calm")[1][0] == "calm")
            if calm:
                self.fails(Refused(-1), look, house, "beaten")
                used = deed_done(house, ("rule", "last used"))
                for track in some_tracks(luck, used, 20, 60):
                    self.assertEqual(*walked(used, track)[3:])
                self.assertEqual(("most", 0), look(used, "loss")[1][:2])
                self.assertEqual(0, look(house, "ahead")[1])
            else:
                for rule in ("last used", "first in", (1, ()), house.rule):
                    walk, run = look(deed_done(house, ("rule", rule)), "beaten")[1]
                    self.assertEqual(len(walk), len(run))
                    self.assertGreater(rule_moves(house.rooms, rule, walk), least_moves(walk, house.rooms))
                self.assertNotEqual(0, look(house, "ahead")[1])
                self.assertEqual("endless", look(deed_done(house, ("rule", "last used")), "loss")[1][0])
            if look(house, "laid")[1][0] == "laid":
                self.assertTrue(is_calm(deed_done(house, ("calm",)).web, house.rooms))

    def test_a_shelf_laid_calm(self):
        """With its layout hindsight has no move less than "last used", on all short tracks."""
        for house in (RING, House(RING.shelf, 2, (0, 1, 2, 3), 3, "last used"), House((6, (("list", (0, 1, 2)), ("ring", (3, 4, 5)), ("list", (1, 4)))), 3, (0, 1, 2, 3, 4, 5), 2, "last used")):
            laid = deed_done(house, ("calm",))
            rows = linked_cells(laid.shelf)
            tracks = [(cell,) for cell in range(laid.shelf[0])]
            for _ in range(5):
                tracks = [track + (cell,) for track in tracks for cell in range(laid.shelf[0])
                          if cell in rows[track[-1]] or laid.layout[cell] == laid.layout[track[-1]]]
            for track in tracks:
                self.assertEqual(*walked(laid, track)[3:])

    def test_errors(self):
        self.fails(InvalidHouse(-1), look, None, None)
        self.fails(InvalidHouse(-1), walked, (SHELF, 2, LAYOUT, 2, "last used"), ())
        self.fails(InvalidHouse(-1), look_holds, OBJECTS[1], None)
        for word, error in KINDS["look word"]:
            self.fails(error, look, STAR, word)
        self.fails(Refused(-1), look, LINE, "beaten")
        self.fails(Refused(-1), look, ALONE, "share")
        self.fails(Refused(-1), look, House((1, ()), 1, (0,), 1, "last used"), "share")
        great = House(grid_shelf(4, 5), 1, tuple(range(20)), 4, "last used")
        self.fails(InvalidSize("cells"), look, great, "laid")
        self.fails(InvalidSize("standings"), look, great, "loss")
        self.fails(InvalidSize("standings"), look, great, "quotient")
        self.fails(InvalidSize("states"), look, great, "share")
        self.fails(InvalidSize("blocks"), look, House(grid_shelf(4, 4), 1, tuple(range(16)), 2, "last used"), "ahead")
        self.gives(("ahead", None), look, great, "ahead")
        # The judges' own errors come: nothing holds.
        for word in ("laid", "loss", "quotient", "share"):
            for answer in ANY[::9]:
                self.assertIs(False, look_holds(great, (word, answer)))
        for answer in ANY + beaten_walk(RING.web, 2, "last used", 1):
            self.assertIs(False, look_holds(LINE, ("beaten", answer)))
            self.assertIs(False, look_holds(ALONE, ("share", answer)))

    def test_other_answers_that_hold(self):
        self.holds(look_holds, RING, ("calm", ("ring", (3, 2, 1, 0))))
        self.holds(look_holds, RING, ("laid", ("laid", (0, 1, 0, 1))))
        self.holds(look_holds, RING, ("laid", ("laid", (0, 0, 1, 1))))
        self.holds(look_holds, RING, ("beaten", beaten_walk(RING.web, 2, "last used", 2)))
        self.holds(look_holds, RING, ("beaten", beaten_walk(RING.web, 2, "last used", 9)))
        self.fails_to_hold(look_holds, RING, ("calm", ("ring", (3, 1, 2, 0))))
        self.fails_to_hold(look_holds, RING, ("laid", ("laid", (0, 0, 0, 1))))
        moves, steps, low, high = look(LINE, "share")[1]
        self.holds(look_holds, LINE, ("share", (moves, steps, tuple(height + 2 for height in low), high)))
        self.fails_to_hold(look_holds, LINE, ("share", (moves + 1, steps, low, high)))

    def test_changed_answers(self):
        for house in (RING, LINE, STAR, ALONE, HOUSE):
            self.refuses_all(look_holds, house)
            for value in OBJECTS:
                self.assertIs(False, look_holds(house, value))
                self.assertIs(False, look_holds(house, (value, value)))
                self.assertIs(False, look_holds(house, ("calm", value)))
            answers = [walked(house, next(some_tracks(random.Random(4), house, 1, 20)))]
            for word in WORDS:
                try:
                    answers.append(look(house, word))
                except ShelfError:
                    pass
            for answer in answers:
                self.holds(look_holds, house, answer)
                wrong = lists_within(answer) + bools_within(answer) + [answer[:-1], answer + (0,), answer[1:], (answer,)]
                wrong += [(value,) + answer[1:] for value in ANY + ("walk", "Walked") if value != answer[0] and not self.is_word(value)]
                if answer[0] == "walked":
                    wrong += [answer[:at] + (answer[at] + more,) + answer[at + 1:] for at in (3, 4) for more in (1, -1)]
                    wrong += [answer[:1] + (answer[1] + (99,),) + answer[2:], answer[:2] + (answer[2][1:],) + answer[3:]]
                    wrong += [answer[:at] + (value,) + answer[at + 1:] for at in range(1, 5) for value in ANY
                              if repr(value) != repr(answer[at]) and not (at == 1 and value in ((0,), (0, 1), (1, 0), (0, 1, 2)))]
                elif answer[0] == "ahead":
                    wrong += [("ahead", value) for value in ANY + (3, 4, -1, False) if repr(value) != repr(answer[1])]
                for value in wrong:
                    self.assertIs(False, look_holds(house, value), (answer, value))

    def is_word(self, value):
        return value in WORDS

    def test_asking_changes_nothing(self):
        for house in some_houses()[:12]:
            before = form(house)
            for word, other in product(WORDS, repeat=2):
                for asked in (word, other):
                    try:
                        look(house, asked)
                    except ShelfError:
                        pass
            self.assertEqual(before, form(house))


if __name__ == "__main__":
    unittest.main()
