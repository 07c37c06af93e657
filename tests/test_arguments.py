"""Promises 1 to 3 and the interface: names, wrong values at each argument, the order of errors."""

import importlib
import unittest

from slowshelves import (
    ahead, blocks, calm, crossings, crowds, cursors, edits, endless, forks, gaps, hindsight, house, keeper, levels, lists,
    looks, loss, orders, rules, shares, shelves, texts, tracks, written,
)
from slowshelves.endless import Walker
from slowshelves.errors import ShelfError
from tests.support import ANY, Case, form, in_lists, parameter_names
from slowshelves.hider import Hider
from slowshelves.house import House
from slowshelves.live import Live
from tests.wrongs import CROWD, HOUSE, KINDS, LAYOUT, LISTS, OBJECTS, RUN, SHELF, TOUCHES, WEB

S = ("shelf", SHELF, "shelf")
W = ("web", WEB, "web")
L = ("layout", LAYOUT, "layout")
LB = ("layout", LAYOUT, "layout beside")
ROOMS = ("rooms", 2, "rooms")
ROOM = ("room", 2, "room")
ANY_VALUE = ("value", None, "any")
# With each cell by itself SHELF has the web WEB.
ALONE = ("layout", (0, 1, 2, 3), "layout beside")
WALK = ("walk", (0, 1, 2, 1), "walk")
FOLD = ("fold", (0, 1, 0, 2), "fold")
ROWS = ("rows", 2, "rows")
COLUMNS = ("columns", 3, "columns")
ARMS = ("lengths", (1, 2), "arms")
LENGTHS = ("lengths", (1, 8, 3), "lengths")
FILL = [ROOM, ("least", 1, "least"), ("lists", LISTS, "lists"), ("edit", ("put", 0, 1), "edit")]
RING_CELLS = ("cells", 5, "cells from 3")
AHEAD = ("ahead", 1, "ahead")
TOUCHED = [("touches", TOUCHES, "touches")]
ROOMY = TOUCHED + [("rooms", 2, "many rooms")]
GAPS = ("gaps", ((1, 4),), "gaps")
RULE = ("rule", (2, ((0, (1, 3), 1, 2, 1, 3), (1, (0,), 0, 1, 0, -1))), "rule")
TWO_RULES = [("one", "last used", "rule"), ("other", "first in", "rule")]
CROWD_ROWS = ("rows", CROWD, "crowd rows")
ORDER = ("order", (0, 1, 0), "order")
KEPT = [("room", 4, "room"), ("least", 1, "least"), ("lists", LISTS, "lists"), ("edit", ("put", 0, 1), "edit")]
CELL = ("cell", 3, "cell")
LAID = [S, LB, ROOMS]
PAPER = ("paper", shares.share_paper(SHELF, LAYOUT, 2), "paper")
BEHIND = ("behind", 2, "behind")

WRITES = ("writes", (4, 0), "writes")
WEIGHTS = ("weights", ((1, 9), (0, 1), (2, 5)), "weights")
TOLLS = ("tolls", (0, 3, 10 ** 6, 0, 7), "tolls")
ASKED = [W, ("place", 1, "block"), ("asked", (3, 1, 0), "asked")]
BEGINS = ("begins", (0, 2), "begins")
BESIDE = [W, ROOMS, ("own", 2, "rooms"), RULE]
HOUSED = ("house", HOUSE, "house")

# For each function its arguments: name, a good one, the kind of wrong ones.
FUNCTIONS = {
    shelves: {
        "need_shelf": [("value", SHELF, "shelf")],
        "shelf_links": [S],
        "linked_cells": [S],
        "cell_parts": [S],
        "list_shelf": [("cells", 3, "cells to 200")],
        "ring_shelf": [("cells", 3, "cells from 3")],
    },
    blocks: {
        "need_web": [("value", WEB, "web")],
        "neighbours": [W],
        "web_parts": [W],
        "need_block": [W, ("value", 3, "block")],
        "need_rooms": [("value", 2, "rooms")],
        "need_room": [("value", 2, "room")],
        "plain_layout": [("value", LAYOUT, "layout")],
        "need_layout": [S, ROOM, ("value", LAYOUT, "layout in 2")],
        "layout_blocks": [L],
        "layout_web": [S, LB],
        "run_layout": [("cells", 5, "cells to 200"), ROOM],
        "joined_layout": [L, ("one", 0, "one"), ("other", 2, "other")],
        "web_shelf": [W],
        "layout_count": [("cells", 4, "cells to 30"), ROOM],
        "nth_layout": [("cells", 4, "cells to 30"), ROOM, ("number", 9, "index")],
        "layout_number": [("cells", 4, "cells to 30"), ROOM, ("layout", LAYOUT, "layout in 2")],
        "need_fold": [W, ("value", (0, 1, 0, 2), "fold")],
        "folded_web": [W, ("fold", (0, 1, 0, 2), "fold")],
    },
    calm: {
        "calm_paper": [W, ROOMS],
        "calm_holds": [W, ROOMS, ANY_VALUE],
        "is_calm": [W, ROOMS],
        "calm_rooms": [W],
        "safe_begins": [W, ROOMS],
    },
    tracks: {
        "need_touches": [("value", (0, 39, 0), "touches")],
        "need_walk": [W, ("value", (0, 1, 2, 1), "walk")],
        "need_track": [S, LB, ("value", (0, 0, 1, 2), "track")],
        "need_way": [S, ("value", (0, 1, 2, 1), "way")],
        "track_walk": [L, ("track", (0, 3, 0, 2), "row of cells")],
        "walk_track": [S, ALONE, WALK],
        "folded_walk": [W, FOLD, WALK],
        "piece_layout": [S, LB],
        "piece_lots": [S, ALONE, WALK],
        "walk_way": [S, ALONE, WALK],
        "follow_paper": [S, LB],
        "follow_holds": [S, LB, ANY_VALUE],
        "walk_count": [W, ("touches", 3, "touches to 400")],
        "nth_walk": [W, ("touches", 3, "touches to 400"), ("number", 2, "index")],
        "walk_number": [W, WALK],
    },
    edits: {
        "edit_rows": FILL[2:],
        "lists_web": FILL[2:3],
        "fill_paper": FILL,
        "fill_holds": FILL + [ANY_VALUE],
    },
    crossings: {
        "cross_holds": [S, ROOM, ANY_VALUE],
        "grid_shelf": [ROWS, COLUMNS],
        "grid_paper": [ROWS, COLUMNS, ROOM, ROOMS],
        "grid_room": [ROWS, COLUMNS, ROOMS],
        "arms_shelf": [ARMS],
        "arms_paper": [ARMS, ROOM, ROOMS],
        "arms_room": [ARMS, ROOMS],
    },
    lists: {
        "length_layout": [LENGTHS],
        "list_share": [LENGTHS, ROOMS],
        "best_stretch": [LENGTHS, ROOMS],
        "swing_way": [LENGTHS, ROOMS],
        "best_runs": [("cells", 5, "cells to 40"), ROOM, ROOMS],
        "tree_share": [("web", (3, ((0, 1), (1, 2))), "web")],
        "folded_layout": [RING_CELLS, ROOM],
        "folded_share": [RING_CELLS, ROOM, ROOMS],
    },
    forks: {
        "fork_ways": [W, AHEAD],
        "fork_holds": [W, AHEAD, ANY_VALUE],
        "longest_common": [W],
    },
    gaps: {
        "walk_gaps": TOUCHED,
        "gap_loads": TOUCHED + [GAPS],
        "are_kept": ROOMY + [GAPS],
        "kept_run": ROOMY + [GAPS],
        "run_gaps": ROOMY + [("run", RUN, "run")],
    },
    rules: {
        "need_rule": [ROOMS, ("value", RULE[1], "rule")],
        "rule_run": [ROOMS, RULE, ("walk", (0, 39, 0), "touches")],
        "rule_moves": [ROOMS, RULE, ("walk", (0, 39, 0), "touches")],
        "rule_table": [W, ROOMS, RULE],
        "move_machine": [W, ROOMS, RULE],
        "alike_paper": [W, ROOMS] + TWO_RULES,
        "alike_holds": [W, ROOMS] + TWO_RULES + [ANY_VALUE],
        "rule_slip": [W, ROOMS, RULE],
        "slip_walk": [W, ROOMS, RULE],
    },
    crowds: {
        "order_touches": [CROWD_ROWS, ORDER],
        "crowd_paper": [CROWD_ROWS],
        "crowd_holds": [CROWD_ROWS, ANY_VALUE],
        "open_run": [CROWD_ROWS, ROOMS, ORDER],
        "crowd_order": [CROWD_ROWS, ROOMS],
    },
    keeper: {
        "kept_edit": KEPT,
        "fill_height": [KEPT[0], KEPT[2]],
    },
    levels: {
        "part_levels": [S, CELL, ROOM],
        "part_tree": [S, CELL, ROOM],
        "laid_paper": [S, ROOM, ROOMS],
        "laid_holds": [S, ROOM, ROOMS, ANY_VALUE],
        "least_room": [S, ROOMS],
    },
    shares: {
        "share_states": LAID,
        "forced_row": LAID + [("steps", 5, "index to 100")],
        "share_paper": LAID,
        "least_share": LAID,
        "share_holds": LAID + [ANY_VALUE],
        "share_run": LAID + [PAPER, ("way", (0, 1, 2, 1), "way")],
        "forced_play": LAID + [PAPER, ("answers", (0, 7, 1), "answers")],
        "room_shares": LAID[:2],
        "core_blocks": [W, ROOMS],
    },
    texts: {
        "shelf_text": [S],
        "layout_text": [L],
        "web_text": [W],
        "walk_text": [("walk", (0, 39, 0), "touches")],
        "read_shelf": [("text", "shelf 4\nlist 0 1\nring 3 2 1", "shelf text")],
        "read_layout": [S, ROOM, ("text", "block 0 3\nblock 2 1", "layout text")],
        "read_web": [("text", "web 4\n1 to 0 2 3", "web text")],
        "read_walk": [W, ("text", "0 1 2 3 1 0", "walk text")],
    },
    ahead: {
        "ahead_needed": [W, ROOMS],
        "two_room_rounds": [("walk", (0, 39, 0), "touches")],
        "seer_run": [W, ROOMS, WALK, AHEAD],
    },
    endless: {
        "beaten_walk": [W, ROOMS, RULE, BEHIND],
        "beaten_holds": [W, ROOMS, RULE, BEHIND, ANY_VALUE],
    },
    hindsight: {
        "run_memories": ROOMY + [("run", RUN, "run")],
        "run_moves": ROOMY + [("run", RUN, "run")],
        "far_run": ROOMY,
        "least_moves": ROOMY,
        "price_bound": ROOMY + [("prices", (3, 0), "prices")],
        "hindsight_paper": ROOMY,
        "hindsight_holds": ROOMY + [ANY_VALUE],
        "beginning_moves": ROOMY,
        "touch_depths": TOUCHED,
        "rooms_moves": TOUCHED,
        "gap_kinds": ROOMY,
        "kind_paper": ROOMY + [("gap", (1, 4), "gap")],
        "kind_holds": ROOMY + [("gap", (1, 4), "gap"), ANY_VALUE],
    },
    written: {
        "toll_bound": ROOMY + [WEIGHTS, TOLLS],
        "weighed_paper": ROOMY + [WEIGHTS],
        "weighed_holds": ROOMY + [WEIGHTS, ANY_VALUE],
        "written_cost": ROOMY + [WRITES, ("run", RUN, "run")],
        "written_paper": ROOMY + [WRITES],
        "writes_bound": ROOMY + [WRITES, TOLLS],
        "even_paper": ROOMY + [("writes", (2,), "writes")],
        "even_holds": ROOMY + [("writes", (2,), "writes"), ANY_VALUE],
    },
    orders: {
        "order_steps": ASKED,
        "order_paper": ASKED + [ROOMS],
        "told_moves": ASKED + [ROOMS],
    },
    cursors: {
        "weave_touches": [W, BEGINS, ("weave", ((1, 2), (0, 0), (0, 1), (1, 3)), "weave")],
        "is_weave_calm": [W, ROOMS, BEGINS],
        "weave_paper": [W, ROOMS, BEGINS, RULE],
        "weave_holds": [W, ROOMS, BEGINS, RULE, ANY_VALUE],
    },
    loss: {
        "walk_loss": BESIDE + [WALK],
        "loss_paper": BESIDE,
        "greatest_loss": BESIDE,
        "loss_holds": BESIDE + [ANY_VALUE],
        "quotient_paper": BESIDE,
        "quotient_holds": BESIDE + [ANY_VALUE],
        "losses_row": [W, ROOMS, ("word", "first in", "rule word")],
    },
    house: {
        "deed_done": [HOUSED, ("deed", ("cell",), "deed")],
    },
    looks: {
        "walked": [HOUSED, ("track", (0, 0, 1, 2), "track in a house")],
        "look": [HOUSED, ("word", "calm", "look word")],
        "look_holds": [HOUSED, ANY_VALUE],
    },
}

# For each class likewise; none has arguments that are not told.
CLASSES = {
    Walker: [W, ROOMS],
    Hider: [W, ROOMS, ("ahead", 0, "ahead")],
    House: [S, ROOM, ("layout", LAYOUT, "layout in 2"), ROOMS, RULE],
    Live: [HOUSED],
}


class TestArguments(Case):
    def each(self):
        for module, table in FUNCTIONS.items():
            for name, arguments in table.items():
                yield getattr(module, name), [row[0] for row in arguments], [row[1:] for row in arguments]

    def each_class(self):
        for made, arguments in CLASSES.items():
            yield made, [row[0] for row in arguments], [row[1:] for row in arguments]

    def test_classes(self):
        for made, names, rows in self.each_class():
            self.assertEqual(names, parameter_names(made.__init__))
            good = [good for good, _ in rows]
            first = form(made(*good))
            self.assertEqual(first, form(made(**dict(zip(names, good)))))
            self.assertEqual(first, form(made(**dict(list(zip(names, good))[::-1]))))
            self.assertEqual(first, form(made(*in_lists(good))))
            self.assertRaises(TypeError, iter, made(*good))
            self.assertRaises(TypeError, len, made(*good))
            for at, (_, kind) in enumerate(rows):
                later = [KINDS[other][0][0] for _, other in rows[at + 1:]]
                for wrong, error in KINDS[kind] + [(item, KINDS[kind][0][1]) for item in OBJECTS if item != good[at]]:
                    self.fails(error, made, *good[:at], wrong, *good[at + 1:])
                    self.fails(error, made, *good[:at], wrong, *later)

    def test_objects_are_no_other_values(self):
        for function, _, rows in self.each():
            good = [row[0] for row in rows]
            for at in range(len(rows)):
                for value in OBJECTS + tuple([item] for item in OBJECTS) + tuple((item, item) for item in OBJECTS):
                    if value == good[at]:
                        continue
                    try:
                        told = function(*good[:at], value, *good[at + 1:])
                    except ShelfError:
                        continue
                    self.assertIs(told, False, (function.__name__, at, value))

    def test_names(self):
        for function, names, _ in self.each():
            self.assertEqual(names, parameter_names(function), function.__name__)

    def test_modules(self):
        for module, table in FUNCTIONS.items():
            self.assertIs(module, importlib.import_module(module.__name__))
            for name in table:
                self.assertEqual(module.__name__, getattr(module, name).__module__)

    def test_good_ones_raise_nothing(self):
        for function, _, rows in self.each():
            good = [good for good, _ in rows]
            if {"paper", "deed"} & {kind for _, kind in rows}:
                # Lists do not stand for papers, or within them, nor for deeds.
                self.assertEqual(function(*good), function(**dict(zip(parameter_names(function), good))))
            else:
                self.tell(function, *good)

    def test_each_wrong_value_at_each_argument(self):
        for function, _, rows in self.each():
            good = [row[0] for row in rows]
            for at, (_, kind) in enumerate(rows):
                for wrong, error in KINDS[kind]:
                    self.fails(error, function, *good[:at], wrong, *good[at + 1:])

    def test_errors_come_in_the_order_of_the_arguments(self):
        for function, _, rows in self.each():
            good = [row[0] for row in rows]
            for at, (_, kind) in enumerate(rows):
                later = [KINDS[other][0][0] if KINDS[other] else None for _, other in rows[at + 1:]]
                for wrong, error in KINDS[kind][::7]:
                    self.fails(error, function, *good[:at], wrong, *later)
                    self.fails(error, function, *good[:at], wrong, *[worth for worth, _ in rows[at + 1:]])

    def test_any_values_raise_own_errors_alone(self):
        for function, _, rows in self.each():
            good = [row[0] for row in rows]
            for at in range(len(rows)):
                for value in ANY:
                    try:
                        function(*good[:at], value, *good[at + 1:])
                    except ShelfError:
                        pass

    def test_a_later_call_is_not_changed_by_an_earlier_one(self):
        for function, _, rows in self.each():
            good = [row[0] for row in rows]
            first = function(*good)
            for wrong, _ in KINDS[rows[0][1]][:9]:
                try:
                    function(wrong, *good[1:])
                except ShelfError:
                    pass
            self.assertEqual(form(first), form(function(*good)))


if __name__ == "__main__":
    unittest.main()
