"""Promises 46 and 47."""

import random
import unittest
from itertools import combinations, product

from slowshelves.blocks import layout_web
from slowshelves.crossings import grid_shelf
from slowshelves.errors import (
    InvalidDeed, InvalidHouse, InvalidLayout, InvalidRoom, InvalidRooms, InvalidRule, InvalidShelf, InvalidSize, Refused,
)
from slowshelves.hindsight import least_moves
from slowshelves.house import House, deed_done
from slowshelves.levels import laid_holds, laid_paper
from slowshelves.shelves import linked_cells, list_shelf, ring_shelf
from slowshelves.tracks import track_walk
from tests.support import ANY, Case, calm_by_words, form, in_lists, in_tuples
from tests.wrongs import HOUSE, KINDS, LAYOUT, OBJECTS, SHELF

TABLE = (2, ((0, (1, 3), 1, 2, 1, 3), (1, (0,), 0, 1, 0, -1)))


def parts(house):
    return house.shelf, house.room, house.layout, house.rooms, house.rule


def first_come(row):
    numbers = {}
    return tuple(numbers.setdefault(thing, len(numbers)) for thing in row)


def rule_fits(rooms, rule):
    """Whether a rule of two rooms more or less is one for these."""
    if isinstance(rule, str):
        return True
    for _, memory, _, block, _, out in rule[1]:
        full = block not in memory and len(memory) == rooms
        if len(memory) > rooms or (out != -1) != full:
            return False
    return True


def done_by_eye(house, deed):
    """The parts behind a deed that is one of the house, but "calm"; None if they are too great."""
    (cells, chains), room, layout, rooms, rule = parts(house)
    word, told = deed[0], in_tuples(deed[1:])
    row = list(layout)
    if word == "chain":
        chains += (told,)
    elif word == "strike":
        chains = tuple(chain for at, chain in enumerate(chains) if at != told[0])
    elif word == "cell":
        cells += 1
        row.append(max(row) + 1)
    elif word == "move":
        row[told[0]] = told[1]
    elif word == "join":
        row = [told[0] if block == told[1] else block for block in row]
    elif word == "lay":
        row = told[0]
    elif word == "room":
        room = told[0]
    elif word == "rooms":
        rooms = told[0]
    else:
        rule = told[0]
    layout = first_come(row)
    too_great = cells > 200 or len(chains) > 200 or max(layout) >= 40 or not rule_fits(rooms, rule)
    if too_great or max(layout.count(block) for block in layout) > room:
        return None
    return (cells, chains), room, layout, rooms, rule


def all_deeds(house):
    """All deeds of a small house, but "calm"."""
    cells, blocks = house.shelf[0], max(house.layout) + 1
    for size in (1, 2, 3):
        for row in combinations(range(cells), size):
            yield "chain", "list", row
            yield "chain", "list", row[::-1]
    yield from [("chain", "ring", row) for row in combinations(range(cells), 3)]
    yield from [("strike", number) for number in range(len(house.shelf[1]))]
    yield ("cell",)
    yield from [("move", cell, block) for cell in range(cells) for block in range(blocks + 1)]
    yield from [("join", one, other) for one in range(blocks) for other in range(blocks) if one != other]
    yield from [("lay", row) for row in product((0, 7, 199), repeat=cells)]
    yield from [("room", room) for room in range(1, 9)]
    yield from [("rooms", rooms) for rooms in range(1, 6)]
    yield from [("rule", rule) for rule in ("last used", "first in", (1, ()))]


def some_houses():
    shelves = [(3, ()), (4, (("list", (0, 1, 2, 3)),)), (4, (("ring", (0, 2, 1)), ("list", (3,)))), (1, ()), SHELF]
    for shelf in shelves:
        cells = shelf[0]
        for layout in {tuple(range(cells)), (0,) * cells, tuple(at // 2 for at in range(cells)), tuple(at % 2 for at in range(cells))}:
            for room in {max(first_come(layout).count(block) for block in first_come(layout)), 4}:
                for rooms, rule in ((1, "first in"), (2, "last used"), (2, TABLE), (3, (1, ()))):
                    yield House(shelf, room, layout, rooms, rule)


class TestHouses(Case):
    def test_parts(self):
        for turn in (in_tuples, in_lists, lambda worth: worth):
            house = House(turn(SHELF), 2, turn((5, 5, 3, 9)), 2, turn((2, TABLE[1][::-1])))
            self.assertEqual((SHELF, 2, (0, 0, 1, 2), 2, TABLE), parts(house))
            self.assertEqual(form((3, ((0, 1), (0, 2), (1, 2)))), form(house.web))
            self.assertEqual(form(parts(house)), form((SHELF, 2, (0, 0, 1, 2), 2, TABLE)))
        house = House(rule="first in", rooms=5, layout=[0], room=8, shelf=(1, []))
        self.assertEqual(((1, ()), 8, (0,), 5, "first in", (1, ())), parts(house) + (house.web,))

    def test_later_changes_have_no_effect(self):
        shelf, layout, rule = [4, [["list", [0, 1]]]], [0, 0, 1, 2], [2, [list(row) for row in TABLE[1]]]
        house = House(shelf, 2, layout, 2, rule)
        before = form(house)
        shelf[1][0][1].append(3)
        layout[0] = 7
        rule[1].pop()
        self.assertEqual(before, form(house))

    def test_equal_exactly_if_all_five_are(self):
        same = House(SHELF, 2, (9, 9, 8, 7), 2, "last used")
        self.assertTrue(same == HOUSE and not same != HOUSE)
        others = [((4, SHELF[1][:2]), 2, LAYOUT, 2, "last used"), (SHELF, 3, LAYOUT, 2, "last used"), (SHELF, 2, (0, 1, 1, 2), 2, "last used"),
                  (SHELF, 2, LAYOUT, 3, "last used"), (SHELF, 2, LAYOUT, 2, "first in"), (SHELF, 2, LAYOUT, 2, (1, ()))]
        for row in others:
            self.assertTrue(House(*row) != HOUSE and not House(*row) == HOUSE)
        for value in ANY + OBJECTS[1:] + (parts(HOUSE), list(parts(HOUSE)), vars(HOUSE)):
            self.assertTrue(HOUSE != value and not HOUSE == value and not value == HOUSE)

    def test_errors_in_order(self):
        good = [SHELF, 2, LAYOUT, 2, "last used"]
        errors = (InvalidShelf(-1), InvalidRoom(-1), InvalidLayout(-1), InvalidRooms(-1), InvalidRule(-1))
        for at, error in enumerate(errors):
            self.fails(error, House, *good[:at], *[None] * (5 - at))
            self.fails(error, House, *good[:at], None, *good[at + 1:])
        self.fails(InvalidLayout(2), House, SHELF, 2, (0, 0, 0, 0), 0, 0)
        self.fails(InvalidLayout(1), House, SHELF, 1, (0, 0, 1, 2), 0, 0)
        self.fails(InvalidRule(0), House, SHELF, 2, LAYOUT, 1, TABLE)
        great = ((41, ()), 1, tuple(range(41)))
        self.fails(InvalidRooms(-1), House, *great, 0, "last used")
        self.fails(InvalidRule(-1), House, *great, 1, "last")
        self.fails(InvalidSize("blocks"), House, *great, 1, "last used")
        House((41, ()), 2, [at // 2 for at in range(41)], 1, "last used")
        House((200, ()), 5, [at // 5 for at in range(200)], 1, "last used")
        self.fails(InvalidSize("blocks"), House, (200, ()), 8, [at if at < 41 else 41 + at // 8 for at in range(200)], 1, "last used")

    def test_no_length_and_nothing_to_go_through(self):
        self.assertRaises(TypeError, iter, HOUSE)
        self.assertRaises(TypeError, len, HOUSE)
        self.assertIn("__eq__", vars(House))


class TestDeeds(Case):
    def done(self, house, deed):
        before = form(house)
        forms = [deed_done(house, deed), deed_done(house=house, deed=deed), deed_done(deed=tuple(in_lists(deed)), house=house)]
        self.assertEqual(before, form(house))
        self.assertEqual(1, len({str(form(told)) for told in forms}))
        return forms[0]

    def test_told(self):
        house = House(SHELF, 2, LAYOUT, 2, "last used")
        self.assertEqual(SHELF[1] + (("list", (3, 0)),), self.done(house, ("chain", "list", (3, 0))).shelf[1])
        self.assertEqual(SHELF[1][::2], self.done(house, ("strike", 1)).shelf[1])
        self.assertEqual((5, (0, 0, 1, 2, 3)), (lambda told: (told.shelf[0], told.layout))(self.done(house, ("cell",))))
        self.assertEqual((0, 1, 2, 3), self.done(house, ("move", 0, 3)).layout)
        self.assertEqual((0, 1, 0, 2), self.done(house, ("move", 0, 1)).layout)
        self.assertEqual(LAYOUT, self.done(house, ("move", 0, 0)).layout)
        self.assertEqual(LAYOUT, self.done(house, ("move", 3, 3)).layout)
        self.assertEqual((0, 0, 1, 1), self.done(house, ("join", 2, 1)).layout)
        self.assertEqual((0, 1, 0, 2), self.done(house, ("lay", (8, 2, 8, 0))).layout)
        self.assertEqual(7, self.done(house, ("room", 7)).room)
        self.assertEqual(5, self.done(house, ("rooms", 5)).rooms)
        self.assertEqual("first in", self.done(house, ("rule", "first in")).rule)
        self.assertEqual(TABLE, self.done(house, ("rule", (2, TABLE[1][::-1]))).rule)
        self.assertEqual((0, 0, 1, 1), self.done(house, ("lay", (0, 0, 1, 1))).layout)
        self.fails(Refused(-1), deed_done, house, ("join", 0, 1))
        self.fails(Refused(-1), deed_done, house, ("move", 3, 0))
        self.fails(Refused(-1), deed_done, house, ("lay", (0, 0, 0, 1)))
        self.fails(Refused(-1), deed_done, house, ("room", 1))

    def test_each_deed_on_small_houses(self):
        refused = done = 0
        for house in some_houses():
            before = form(house)
            for deed in all_deeds(house):
                told = done_by_eye(house, deed)
                if told is None:
                    self.fails(Refused(-1), deed_done, house, deed)
                    refused += 1
                else:
                    behind = deed_done(house, deed)
                    self.assertEqual(form(told), form(parts(behind)), (parts(house), deed))
                    self.assertEqual(layout_web(behind.shelf, behind.layout), behind.web)
                    self.assertTrue(behind == House(*told))
                    done += 1
            self.assertEqual(before, form(house))
        self.assertTrue(refused > 100 and done > 1000)

    def test_many_deeds_behind_one_another(self):
        luck = random.Random(1)
        for _ in range(30):
            house = luck.choice(list(some_houses()))
            for _ in range(40):
                deed = luck.choice(list(all_deeds(house))[-40:] + [("cell",)]) if house.shelf[0] > 4 else luck.choice(list(all_deeds(house)))
                told = done_by_eye(house, deed)
                if house.shelf[0] > 6 and deed == ("cell",):
                    continue
                if told is None:
                    self.fails(Refused(-1), deed_done, house, deed)
                else:
                    house = deed_done(house, deed)
                    self.assertEqual(form(told), form(parts(house)))

    def test_tables_for_other_rooms_are_refused(self):
        house = House(SHELF, 2, LAYOUT, 2, TABLE)
        for rooms in (1, 3, 4, 5):
            self.fails(Refused(-1), deed_done, house, ("rooms", rooms))
        self.assertEqual(2, deed_done(house, ("rooms", 2)).rooms)
        house = House(SHELF, 2, LAYOUT, 2, (1, ((0, (), -1, 1, 0, -1), (0, (3,), 3, 1, 0, -1))))
        self.fails(Refused(-1), deed_done, house, ("rooms", 1))
        for rooms in (2, 3, 4, 5):
            self.assertEqual(house.rule, deed_done(house, ("rooms", rooms)).rule)
        self.fails(InvalidDeed(-1), deed_done, house, ("rule", (1, ((0, (0, 1, 2), 1, 3, 0, 0),))))

    def test_too_many(self):
        chains = tuple(("list", (0,)) for _ in range(200))
        house = House((1, chains), 1, (0,), 1, "last used")
        self.fails(Refused(-1), deed_done, house, ("chain", "list", (0,)))
        self.fails(InvalidDeed(-1), deed_done, house, ("chain", "list", (1,)))
        self.assertEqual(199, len(deed_done(house, ("strike", 199)).shelf[1]))
        self.assertEqual(200, len(deed_done(deed_done(house, ("strike", 0)), ("chain", "list", (0,))).shelf[1]))
        house = House((40, ()), 8, tuple(range(40)), 1, "last used")
        self.fails(Refused(-1), deed_done, house, ("cell",))
        self.fails(InvalidDeed(-1), deed_done, house, ("move", 0, 41))
        self.assertEqual(house.layout, deed_done(house, ("move", 3, 40)).layout)
        house = House((41, ()), 8, tuple(range(40)) + (0,), 1, "last used")
        self.fails(Refused(-1), deed_done, house, ("move", 0, 40))
        self.fails(Refused(-1), deed_done, house, ("lay", tuple(range(41))))
        self.fails(Refused(-1), deed_done, house, ("room", 1))
        self.assertEqual(40, deed_done(house, ("move", 5, 40)).web[0])
        house = House((200, ()), 8, [at // 8 for at in range(200)], 1, "last used")
        self.fails(Refused(-1), deed_done, house, ("cell",))
        self.assertEqual(26, deed_done(house, ("move", 5, 25)).web[0])
        house = House((199, ()), 8, [at // 8 for at in range(199)], 1, "last used")
        self.assertEqual(200, deed_done(house, ("cell",)).shelf[0])

    def test_calm(self):
        calm = refused = 0
        for cells, chains in ((4, ((0, 1, 2, 3),)), (6, ((0, 1, 2), (3, 4, 5), (0, 3), (1, 4), (2, 5))), (5, ((0, 1), (0, 2), (0, 3), (0, 4))),
                              (6, tuple(combinations(range(6), 2))), (6, ((0, 1, 2, 3, 4, 5), (5, 0), (1, 4)))):
            shelf = (cells, tuple(("list", row) for row in chains))
            for room in (1, 2, 3):
                for rooms in (1, 2, 3):
                    for layout in (tuple(range(cells)), tuple(at // room for at in range(cells)), tuple(at // room for at in range(cells))[::-1]):
                        house = House(shelf, room, layout, rooms, "last used")
                        if laid_paper(shelf, room, rooms)[0] == "laid":
                            behind = self.done(house, ("calm",))
                            self.assertTrue(calm_by_words(behind.web, rooms))
                            self.assertTrue(laid_holds(shelf, room, rooms, ("laid", behind.layout)))
                            self.assertEqual(parts(house)[:2] + parts(house)[3:], parts(behind)[:2] + parts(behind)[3:])
                            calm += 1
                        else:
                            self.fails(Refused(-1), deed_done, house, ("calm",))
                            refused += 1
        self.assertTrue(calm > 20 and refused > 5)

    def test_calm_of_great_parts(self):
        grid = grid_shelf(4, 4)
        house = House(grid, 2, [at // 2 for at in range(16)], 3, "first in")
        self.fails(InvalidSize("cells"), deed_done, house, ("calm",))
        self.assertTrue(calm_by_words(deed_done(deed_done(house, ("rooms", 1)), ("calm",)).web, 1))
        self.assertTrue(calm_by_words(deed_done(deed_done(house, ("room", 6)), ("calm",)).web, 3))
        for shelf in (list_shelf(20), ring_shelf(20)):
            for rooms in (2, 3, 4):
                house = House(shelf, 2, range_layout(20, 2), rooms, "last used")
                self.assertTrue(calm_by_words(deed_done(house, ("calm",)).web, rooms))
        self.fails(Refused(-1), deed_done, House(ring_shelf(20), 1, tuple(range(20)), 3, "last used"), ("calm",))
        # A layout that is calm already has few enough blocks.
        for cells, room, shelf in ((200, 5, (200, ())), (60, 2, list_shelf(60))):
            house = House(shelf, room, range_layout(cells, room), 2, "last used")
            self.assertTrue(calm_by_words(deed_done(house, ("calm",)).web, 2))

    def test_joining_never_costs_hindsight_a_move(self):
        for house in (House(SHELF, 4, (0, 1, 2, 3), 2, "last used"), House((4, (("ring", (0, 1, 2, 3)),)), 4, (0, 1, 0, 2), 2, "first in"),
                      House((4, (("list", (0, 1, 2, 3)),)), 4, (0, 1, 2, 3), 3, "last used")):
            rows = linked_cells(house.shelf)
            tracks = [(cell,) for cell in range(4)]
            for _ in range(5):
                tracks = [track + (cell,) for track in tracks for cell in range(4)
                          if cell in rows[track[-1]] or house.layout[cell] == house.layout[track[-1]]]
            for one, other in combinations(range(max(house.layout) + 1), 2):
                joined = deed_done(house, ("join", one, other))
                for track in tracks:
                    moves = least_moves(track_walk(house.layout, track), house.rooms)
                    self.assertLessEqual(least_moves(track_walk(joined.layout, track), house.rooms), moves)

    def test_wrong_deeds(self):
        before = form(HOUSE)
        for deed, error in KINDS["deed"]:
            self.fails(error, deed_done, HOUSE, deed)
        self.assertEqual(before, form(HOUSE))
        for deed in all_deeds(HOUSE):
            self.fails(InvalidDeed(-1), deed_done, HOUSE, list(deed))
            self.fails(InvalidDeed(-1), deed_done, HOUSE, deed + (0,))
            self.fails(InvalidDeed(-1), deed_done, HOUSE, deed + (None,))
            if len(deed) > 1:
                self.fails(InvalidDeed(-1), deed_done, HOUSE, deed[:-1])
            self.fails(InvalidDeed(-1), deed_done, HOUSE, (deed[0].upper(),) + deed[1:])
            self.fails(InvalidHouse(-1), deed_done, parts(HOUSE), deed)
        self.fails(InvalidHouse(-1), deed_done, None, None)


def range_layout(cells, room):
    return tuple(at // room for at in range(cells))


if __name__ == "__main__":
    unittest.main()
