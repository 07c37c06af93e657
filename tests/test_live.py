"""Promise 49."""

import random
import unittest
from itertools import product

from slowshelves.calm import is_calm
from slowshelves.crossings import grid_shelf
from slowshelves.errors import (
    InvalidCommand, InvalidDeed, InvalidHouse, InvalidSize, InvalidTrack, Refused, ShelfError,
)
from slowshelves.house import House, deed_done
from slowshelves.levels import laid_paper
from slowshelves.live import Live
from slowshelves.looks import look, look_holds, walked
from slowshelves.rules import rule_run
from slowshelves.shelves import linked_cells, list_shelf
from slowshelves.tracks import need_track, track_walk
from tests.support import ANY, Case, form, in_lists, is_told, least_moves
from tests.test_house import all_deeds
from tests.test_looks import WORDS
from tests.wrongs import HOUSE, KINDS, OBJECTS

RING = House((4, (("ring", (0, 1, 2, 3)),)), 2, (0, 1, 2, 3), 2, "last used")
LINE = House((5, (("list", (0, 1, 2, 3, 4)),)), 2, (0, 0, 1, 1, 2), 2, "last used")


def shown(live):
    """All that is to be seen of it, the house by its parts."""
    return form((live.house, live.track, live.walk, live.memory, live.moves, live.least))


class Eye:
    """What stands, and what was taken back: pairs of a house and a track, as lists."""

    def __init__(self, house):
        self.stands, self.back = [(house, ())], []

    def do(self, house, track):
        self.stands.append((house, track))
        self.back = []

    def here(self):
        return self.stands[-1]


class TestLive(Case):
    def check(self, live, house, track):
        """As if all were made anew."""
        self.assertTrue(live.house == house)
        walk = track_walk(house.layout, track) if track else ()
        told = rule_run(house.rooms, house.rule, walk) if track else ()
        moves = sum(row[0] for row in told)
        least = least_moves(walk, house.rooms)
        self.assertEqual(form((house, track, walk, told[-1][2] if told else (), moves, least)), shown(live))
        if house.rule == "last used" and is_calm(house.web, house.rooms):
            self.assertEqual(live.least, live.moves)

    def test_told(self):
        live = Live(RING)
        for cell in (0, 1, 2, 3, 0):
            self.assertIsNone(live.go(cell))
        self.assertEqual(((0, 1, 2, 3, 0), (0, 1, 2, 3, 0), (0, 3), 5, 4), (live.track, live.walk, live.memory, live.moves, live.least))
        self.assertIsNone(live.do(("calm",)))
        self.assertEqual(live.moves, live.least)
        self.assertIsNone(live.undo())
        self.assertEqual((5, 4), (live.moves, live.least))
        self.assertIsNone(live.redo())
        self.assertIsNone(live.lift())
        self.assertEqual(((), (), (), 0, 0), (live.track, live.walk, live.memory, live.moves, live.least))
        for _ in range(7):
            live.undo()
        self.check(live, RING, ())
        self.fails(Refused(-1), live.undo)

    def test_by_names(self):
        live = Live(house=RING)
        live.go(cell=1)
        live.do(deed=("rooms", 3))
        self.assertEqual((3, (1,)), (live.house.rooms, live.track))
        self.assertEqual(2, len(live.sheet(words=["calm"])))

    def fails_there(self, error, live, call, *arguments):
        before = form(live)
        self.fails(error, call, *arguments)
        self.assertEqual(before, form(live))

    def step(self, luck, live, eye):
        house, track = eye.here()
        kind = luck.choice(("go", "go", "go", "go", "do", "do", "lift", "undo", "undo", "redo") if luck.random() < .8 else ("go", "undo", "redo"))
        if kind == "go":
            cell = luck.randrange(house.shelf[0])
            near = not track or cell in linked_cells(house.shelf)[track[-1]] or house.layout[cell] == house.layout[track[-1]]
            if near:
                live.go(cell)
                eye.do(house, track + (cell,))
            else:
                self.fails_there(InvalidTrack(-1), live, live.go, cell)
        elif kind == "do":
            deeds = list(all_deeds(house))
            deed = luck.choice([("calm",), luck.choice(deeds), luck.choice(deeds[-20:]), luck.choice(deeds[:20])])
            self.deed(live, eye, house, track, deed if house.shelf[0] < 6 or deed != ("cell",) else ("calm",))
        elif kind == "lift":
            live.lift()
            eye.do(house, ())
        elif kind == "undo" and len(eye.stands) > 1:
            live.undo()
            eye.back.append(eye.stands.pop())
        elif kind == "redo" and eye.back:
            live.redo()
            eye.stands.append(eye.back.pop())
        elif kind in ("undo", "redo"):
            self.fails_there(Refused(-1), live, getattr(live, kind))

    def deed(self, live, eye, house, track, deed):
        try:
            behind = deed_done(house, deed)
            if track:
                need_track(behind.shelf, behind.layout, track)
        except InvalidTrack:
            self.fails_there(Refused(-1), live, live.do, deed)
        except ShelfError as error:
            self.fails_there(error, live, live.do, deed)
        else:
            live.do(deed)
            eye.do(behind, track)

    def test_many_things_done(self):
        luck = random.Random(1)
        shelves = [(4, (("ring", (0, 1, 2, 3)),)), (5, (("list", (0, 1, 2, 3, 4)), ("list", (1, 3)))), (3, ()), (4, (("list", (0, 1)), ("list", (0, 2)), ("list", (0, 3))))]
        for turn in range(120):
            shelf = luck.choice(shelves)
            layout = [luck.randrange(shelf[0]) for _ in range(shelf[0])]
            house = House(shelf, luck.randint(max(layout.count(block) for block in layout), 5), layout, luck.randint(1, 4), luck.choice(("last used", "first in", (1, ()))))
            live, eye = Live(house), Eye(house)
            for _ in range(40):
                self.step(luck, live, eye)
                self.check(live, *eye.here())
            for _ in range(len(eye.stands) - 1):
                live.undo()
            self.check(live, house, ())
            self.fails_there(Refused(-1), live, live.undo)

    def test_undone_and_done_again(self):
        """Each row of three things on a small house: undone one by one, and done again."""
        things = [("go", 0), ("go", 1), ("lift",), ("do", ("calm",)), ("do", ("cell",)), ("do", ("rooms", 1)), ("do", ("join", 0, 1)), ("do", ("strike", 0))]
        for row in product(things, repeat=3):
            live, seen = Live(RING), [shown(Live(RING))]
            for name, *told in row:
                try:
                    getattr(live, name)(*told)
                except ShelfError:
                    self.assertEqual(seen[-1], shown(live))
                else:
                    seen.append(shown(live))
            self.fails_there(Refused(-1), live, live.redo)
            for told in seen[-2::-1]:
                live.undo()
                self.assertEqual(told, shown(live))
            self.fails_there(Refused(-1), live, live.undo)
            for told in seen[1:]:
                live.redo()
                self.assertEqual(told, shown(live))
            self.fails_there(Refused(-1), live, live.redo)

    def test_what_is_done_leaves_nothing_to_do_again(self):
        for name, told in (("go", (1,)), ("do", (("rooms", 3),)), ("lift", ())):
            live = Live(RING)
            live.go(0)
            live.go(1)
            live.undo()
            getattr(live, name)(*told)
            self.fails_there(Refused(-1), live, live.redo)
        live = Live(RING)
        live.go(0)
        live.undo()
        for wrong in ((live.go, 9), (live.do, ("cell", 0)), (live.undo,)):
            self.assertRaises(ShelfError, *wrong)
        live.redo()
        self.assertEqual((0,), live.track)

    def test_lifting_nothing_stands_too(self):
        live = Live(RING)
        live.lift()
        live.undo()
        live.redo()
        live.undo()
        self.fails_there(Refused(-1), live, live.undo)

    def test_tracks_that_deeds_break(self):
        live = Live(LINE)
        for cell in (0, 1, 2, 3, 4):
            live.go(cell)
        self.fails_there(Refused(-1), live, live.do, ("strike", 0))
        live.do(("chain", "ring", (0, 1, 2, 3, 4)))
        live.do(("strike", 0))
        self.fails_there(Refused(-1), live, live.do, ("strike", 0))
        live.lift()
        live.do(("strike", 0))
        live.go(0)
        live.go(1)
        live.go(1)
        self.fails_there(Refused(-1), live, live.do, ("move", 1, 2))
        self.fails_there(InvalidTrack(-1), live, live.go, 2)
        # One of two cells in a block, without a link: the layout found for "calm" parts them.
        live = Live(House((3, ()), 2, (0, 1, 0), 1, "first in"))
        live.go(0)
        live.go(2)
        laid = laid_paper((3, ()), 2, 1)[1]
        if laid[0] == laid[2]:
            live.do(("calm",))
            self.assertEqual(laid, live.house.layout)
        else:
            self.fails_there(Refused(-1), live, live.do, ("calm",))

    def test_400_cells(self):
        live = Live(LINE)
        luck = random.Random(2)
        place = 0
        live.go(0)
        for _ in range(399):
            place = luck.choice([cell for cell in (place - 1, place + 1) if 0 <= cell < 5])
            live.go(place)
            self.assertEqual(live.moves, live.least)
        self.check(live, LINE, live.track)
        self.assertEqual(400, len(live.track))
        self.fails_there(Refused(-1), live, live.go, live.track[-2])
        self.fails_there(InvalidTrack(-1), live, live.go, 5)
        live.do(("rule", "first in"))
        self.assertGreater(live.moves, live.least)
        live.lift()
        live.go(4)
        self.assertEqual((4,), live.track)

    def test_wrong_cells_and_deeds(self):
        live = Live(HOUSE)
        for track in ((), (0,), (0, 0), (0, 0, 1, 2)):
            live.lift()
            for cell in track:
                live.go(cell)
            for wrong in ANY + OBJECTS + (4, -1, 10 ** 30, [0], "0"):
                if type(wrong) is not int or not 0 <= wrong < 4:
                    self.fails_there(InvalidTrack(-1), live, live.go, wrong)
            for deed, error in KINDS["deed"]:
                self.fails(error, live.do, deed)
            self.fails_there(InvalidDeed(-1), live, live.do, list(("cell",)))
        live.lift()
        live.go(0)
        self.fails_there(InvalidTrack(-1), live, live.go, 3)
        great = Live(House(grid_shelf(4, 4), 2, tuple(at // 2 for at in range(16)), 3, "last used"))
        self.fails_there(InvalidSize("cells"), great, great.do, ("calm",))
        for house, error in KINDS["house"]:
            self.fails(error, Live, house)
        self.fails(InvalidHouse(-1), Live, live)

    def test_sheets(self):
        for house, track in ((RING, (0, 1, 2, 3, 0)), (LINE, (0, 1, 2, 3, 4)), (LINE, ()), (HOUSE, (0, 0, 1)), (House((1, ()), 1, (0,), 1, "last used"), (0,)),
                             (House(list_shelf(20), 4, tuple(at // 4 for at in range(20)), 3, "last used"), (0, 1))):
            live = Live(house)
            for cell in track:
                live.go(cell)
            for words in ((), WORDS, WORDS[::-1], ("calm", "calm", "share"), ("beaten",) * 10):
                before = form(live)
                told = live.sheet(words)
                self.assertEqual(before, form(live))
                self.assertTrue(is_told(told))
                self.assertEqual(form(told), form(live.sheet(in_lists(words))))
                rows = list(told)
                if track:
                    self.assertEqual(walked(house, track), rows.pop(0))
                self.assertEqual(list(words), [word for word, _ in rows])
                for word, answer in rows:
                    try:
                        self.assertEqual((word, answer), look(house, word))
                        self.assertIs(True, look_holds(house, (word, answer)))
                    except ShelfError:
                        self.assertIsNone(answer)

    def test_words_without_an_answer(self):
        live = Live(LINE)
        self.assertEqual((("beaten", None), ("calm", ("calm", ((0, 1, 2),)))), live.sheet(("beaten", "calm")))
        live = Live(House(grid_shelf(4, 4), 1, tuple(range(16)), 3, "last used"))
        told = dict(live.sheet(("laid", "loss", "ahead", "calm")))
        self.assertEqual((None, None, None), (told["laid"], told["loss"], told["ahead"]))
        self.assertEqual("fork", told["calm"][0])

    def test_wrong_sheets(self):
        live = Live(RING)
        live.go(0)
        for wrong in ANY + OBJECTS + ("calm", ("calm", "walked"), ("calm", None), ("calm", ["laid"]), {"calm": 1}.keys(), ["Calm"], ("",)):
            if wrong not in ((), [], ("calm",)):
                self.fails_there(InvalidCommand(), live, live.sheet, wrong)

    def test_what_a_sheet_tells_holds(self):
        luck = random.Random(3)
        live, eye = Live(RING), Eye(RING)
        for _ in range(120):
            self.step(luck, live, eye)
            if live.house.shelf[0] <= 6:
                for row in live.sheet(luck.sample(WORDS, 3)):
                    if len(row) > 2 or row[1] is not None:
                        self.assertIs(True, look_holds(live.house, row))

    def test_two_do_not_meet(self):
        one, other = Live(RING), Live(RING)
        one.go(0)
        one.do(("rooms", 4))
        self.check(other, RING, ())
        self.fails_there(Refused(-1), other, other.undo)

    def test_no_length_and_nothing_to_go_through(self):
        live = Live(RING)
        self.assertRaises(TypeError, iter, live)
        self.assertRaises(TypeError, len, live)
        self.assertEqual(form(((), (), (), 0, 0)), form((live.track, live.walk, live.memory, live.moves, live.least)))
        self.assertTrue(live.house == RING)
        for name in ("go", "do", "lift", "undo", "redo", "sheet"):
            self.assertIn(name, vars(Live))


if __name__ == "__main__":
    unittest.main()
