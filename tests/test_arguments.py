"""Promises 1 to 3 and the interface: names, wrong values at each argument, the order of errors."""

import importlib
import unittest

from slowshelves import (
    ahead, blocks, calm, crossings, crowds, edits, endless, forks, gaps, keeper, levels, lists, rules, shares, shelves,
    texts, tracks,
)
from slowshelves.errors import ShelfError
from tests.support import ANY, Case, parameter_names
from tests.wrongs import CROWD, KINDS, LAYOUT, LISTS, RUN, SHELF, TOUCHES, WEB

S = ("shelf", SHELF, "shelf")
W = ("web", WEB, "web")
L = ("layout", LAYOUT, "layout")
LB = ("layout", LAYOUT, "layout beside")
ROOMS = ("rooms", 2, "rooms")
ROOM = ("room", 2, "room")
ANY_VALUE = ("value", None, "any")
# With each cell by itself SHELF has the web WEB.
ALONE = ("layout", (0, 1, 2, 3), "layout beside")
WALK = ("walk", (0, 1, 2, 1), "walk")
FOLD = ("fold", (0, 1, 0, 2), "fold")
ROWS = ("rows", 2, "rows")
COLUMNS = ("columns", 3, "columns")
ARMS = ("lengths", (1, 2), "arms")
LENGTHS = ("lengths", (1, 8, 3), "lengths")
FILL = [ROOM, ("least", 1, "least"), ("lists", LISTS, "lists"), ("edit", ("put", 0, 1), "edit")]
RING_CELLS = ("cells", 5, "cells from 3")
AHEAD = ("ahead", 1, "ahead")
TOUCHED = [("touches", TOUCHES, "touches")]
ROOMY = TOUCHED + [("rooms", 2, "many rooms")]
GAPS = ("gaps", ((1, 4),), "gaps")
RULE = ("rule", (2, ((0, (1, 3), 1, 2, 1, 3), (1, (0,), 0, 1, 0, -1))), "rule")
TWO_RULES = [("one", "last used", "rule"), ("other", "first in", "rule")]
CROWD_ROWS = ("rows", CROWD, "crowd rows")
ORDER = ("order", (0, 1, 0), "order")
KEPT = [("room", 4, "room"), ("least", 1, "least"), ("lists", LISTS, "lists"), ("edit", ("put", 0, 1), "edit")]
CELL = ("cell", 3, "cell")
LAID = [S, LB, ROOMS]
PAPER = ("paper", shares.share_paper(SHELF, LAYOUT, 2), "paper")
BEHIND = ("behind", 2, "behind")

# For each function its arguments: name, a good one, the kind of wrong ones.
FUNCTIONS = {
    shelves: {
        "need_shelf": [("value", SHELF, "shelf")],
        "shelf_links": [S],
        "linked_cells": [S],
        "cell_parts": [S],
        "list_shelf": [("cells", 3, "cells to 200")],
        "ring_shelf": [("cells", 3, "cells from 3")],
    },
    blocks: {
        "need_web": [("value", WEB, "web")],
        "neighbours": [W],
        "web_parts": [W],
        "need_block": [W, ("value", 3, "block")],
        "need_rooms": [("value", 2, "rooms")],
        "need_room": [("value", 2, "room")],
        "plain_layout": [("value", LAYOUT, "layout")],
        "need_layout": [S, ROOM, ("value", LAYOUT, "layout in 2")],
        "layout_blocks": [L],
        "layout_web": [S, LB],
        "run_layout": [("cells", 5, "cells to 200"), ROOM],
        "joined_layout": [L, ("one", 0, "one"), ("other", 2, "other")],
        "web_shelf": [W],
        "layout_count": [("cells", 4, "cells to 30"), ROOM],
        "nth_layout": [("cells", 4, "cells to 30"), ROOM, ("number", 9, "index")],
        "layout_number": [("cells", 4, "cells to 30"), ROOM, ("layout", LAYOUT, "layout in 2")],
        "need_fold": [W, ("value", (0, 1, 0, 2), "fold")],
        "folded_web": [W, ("fold", (0, 1, 0, 2), "fold")],
    },
    calm: {
        "calm_paper": [W, ROOMS],
        "calm_holds": [W, ROOMS, ANY_VALUE],
        "is_calm": [W, ROOMS],
        "calm_rooms": [W],
        "safe_begins": [W, ROOMS],
    },
    tracks: {
        "need_touches": [("value", (0, 39, 0), "touches")],
        "need_walk": [W, ("value", (0, 1, 2, 1), "walk")],
        "need_track": [S, LB, ("value", (0, 0, 1, 2), "track")],
        "need_way": [S, ("value", (0, 1, 2, 1), "way")],
        "track_walk": [L, ("track", (0, 3, 0, 2), "row of cells")],
        "walk_track": [S, ALONE, WALK],
        "folded_walk": [W, FOLD, WALK],
        "piece_layout": [S, LB],
        "piece_lots": [S, ALONE, WALK],
        "walk_way": [S, ALONE, WALK],
        "follow_paper": [S, LB],
        "follow_holds": [S, LB, ANY_VALUE],
        "walk_count": [W, ("touches", 3, "touches to 400")],
        "nth_walk": [W, ("touches", 3, "touches to 400"), ("number", 2, "index")],
        "walk_number": [W, WALK],
    },
    edits: {
        "edit_rows": FILL[2:],
        "lists_web": FILL[2:3],
        "fill_paper": FILL,
        "fill_holds": FILL + [ANY_VALUE],
    },
    crossings: {
        "cross_holds": [S, ROOM, ANY_VALUE],
        "grid_shelf": [ROWS, COLUMNS],
        "grid_paper": [ROWS, COLUMNS, ROOM, ROOMS],
        "grid_room": [ROWS, COLUMNS, ROOMS],
        "arms_shelf": [ARMS],
        "arms_paper": [ARMS, ROOM, ROOMS],
        "arms_room": [ARMS, ROOMS],
    },
    lists: {
        "length_layout": [LENGTHS],
        "list_share": [LENGTHS, ROOMS],
        "best_stretch": [LENGTHS, ROOMS],
        "swing_way": [LENGTHS, ROOMS],
        "best_runs": [("cells", 5, "cells to 40"), ROOM, ROOMS],
        "tree_share": [("web", (3, ((0, 1), (1, 2))), "web")],
        "folded_layout": [RING_CELLS, ROOM],
        "folded_share": [RING_CELLS, ROOM, ROOMS],
    },
    forks: {
        "fork_ways": [W, AHEAD],
        "fork_holds": [W, AHEAD, ANY_VALUE],
        "longest_common": [W],
    },
    gaps: {
        "walk_gaps": TOUCHED,
        "gap_loads": TOUCHED + [GAPS],
        "are_kept": ROOMY + [GAPS],
        "kept_run": ROOMY + [GAPS],
        "run_gaps": ROOMY + [("run", RUN, "run")],
    },
    rules: {
        "need_rule": [ROOMS, ("value", RULE[1], "rule")],
        "rule_run": [ROOMS, RULE, ("walk", (0, 39, 0), "touches")],
        "rule_moves": [ROOMS, RULE, ("walk", (0, 39, 0), "touches")],
        "rule_table": [W, ROOMS, RULE],
        "move_machine": [W, ROOMS, RULE],
        "alike_paper": [W, ROOMS] + TWO_RULES,
        "alike_holds": [W, ROOMS] + TWO_RULES + [ANY_VALUE],
        "rule_slip": [W, ROOMS, RULE],
        "slip_walk": [W, ROOMS, RULE],
    },
    crowds: {
        "order_touches": [CROWD_ROWS, ORDER],
        "crowd_paper": [CROWD_ROWS],
        "crowd_holds": [CROWD_ROWS, ANY_VALUE],
        "open_run": [CROWD_ROWS, ROOMS, ORDER],
        "crowd_order": [CROWD_ROWS, ROOMS],
    },
    keeper: {
        "kept_edit": KEPT,
        "fill_height": [KEPT[0], KEPT[2]],
    },
    levels: {
        "part_levels": [S, CELL, ROOM],
        "part_tree": [S, CELL, ROOM],
        "laid_paper": [S, ROOM, ROOMS],
        "laid_holds": [S, ROOM, ROOMS, ANY_VALUE],
        "least_room": [S, ROOMS],
    },
    shares: {
        "share_states": LAID,
        "forced_row": LAID + [("steps", 5, "index to 100")],
        "share_paper": LAID,
        "least_share": LAID,
        "share_holds": LAID + [ANY_VALUE],
        "share_run": LAID + [PAPER, ("way", (0, 1, 2, 1), "way")],
        "forced_play": LAID + [PAPER, ("answers", (0, 7, 1), "answers")],
        "room_shares": LAID[:2],
        "core_blocks": [W, ROOMS],
    },
    texts: {
        "shelf_text": [S],
        "layout_text": [L],
        "web_text": [W],
        "walk_text": [("walk", (0, 39, 0), "touches")],
        "read_shelf": [("text", "shelf 4\nlist 0 1\nring 3 2 1", "shelf text")],
        "read_layout": [S, ROOM, ("text", "block 0 3\nblock 2 1", "layout text")],
        "read_web": [("text", "web 4\n1 to 0 2 3", "web text")],
        "read_walk": [W, ("text", "0 1 2 3 1 0", "walk text")],
    },
    ahead: {
        "ahead_needed": [W, ROOMS],
        "two_room_rounds": [("walk", (0, 39, 0), "touches")],
        "seer_run": [W, ROOMS, WALK, AHEAD],
    },
    endless: {
        "beaten_walk": [W, ROOMS, RULE, BEHIND],
        "beaten_holds": [W, ROOMS, RULE, BEHIND, ANY_VALUE],
    },
}


class TestArguments(Case):
    def each(self):
        for module, table in FUNCTIONS.items():
            for name, arguments in table.items():
                yield getattr(module, name), [row[0] for row in arguments], [row[1:] for row in arguments]

    def test_names(self):
        for function, names, _ in self.each():
            self.assertEqual(names, parameter_names(function), function.__name__)

    def test_modules(self):
        for module, table in FUNCTIONS.items():
            self.assertIs(module, importlib.import_module(module.__name__))
            for name in table:
                self.assertEqual(module.__name__, getattr(module, name).__module__)

    def test_good_ones_raise_nothing(self):
        for function, _, rows in self.each():
            good = [good for good, _ in rows]
            if "paper" in [kind for _, kind in rows]:
                # Lists do not stand for papers, or within them.
                self.assertEqual(function(*good), function(**dict(zip(parameter_names(function), good))))
            else:
                self.tell(function, *good)

    def test_each_wrong_value_at_each_argument(self):
        for function, _, rows in self.each():
            good = [row[0] for row in rows]
            for at, (_, kind) in enumerate(rows):
                for wrong, error in KINDS[kind]:
                    self.fails(error, function, *good[:at], wrong, *good[at + 1:])

    def test_errors_come_in_the_order_of_the_arguments(self):
        for function, _, rows in self.each():
            good = [row[0] for row in rows]
            for at, (_, kind) in enumerate(rows):
                later = [KINDS[other][0][0] if KINDS[other] else None for _, other in rows[at + 1:]]
                for wrong, error in KINDS[kind][::7]:
                    self.fails(error, function, *good[:at], wrong, *later)

    def test_any_values_raise_own_errors_alone(self):
        for function, _, rows in self.each():
            good = [row[0] for row in rows]
            for at in range(len(rows)):
                for value in ANY:
                    try:
                        function(*good[:at], value, *good[at + 1:])
                    except ShelfError:
                        pass

    def test_a_later_call_is_not_changed_by_an_earlier_one(self):
        for function, _, rows in self.each():
            good = [row[0] for row in rows]
            first = function(*good)
            for wrong, _ in KINDS[rows[0][1]][:9]:
                try:
                    function(wrong, *good[1:])
                except ShelfError:
                    pass
            self.assertEqual(repr(first), repr(function(*good)))


if __name__ == "__main__":
    unittest.main()
