"""For each kind of argument all sorts of wrong values, each with its error."""

from slowshelves.errors import (
    InvalidAnswers,
    InvalidBegins,
    InvalidBlock,
    InvalidCell,
    InvalidCommand,
    InvalidDeed,
    InvalidEdit,
    InvalidFold,
    InvalidGaps,
    InvalidHouse,
    InvalidIndex,
    InvalidLayout,
    InvalidLengths,
    InvalidLists,
    InvalidLot,
    InvalidOrder,
    InvalidPaper,
    InvalidPrices,
    InvalidRoom,
    InvalidRooms,
    InvalidRows,
    InvalidRule,
    InvalidRun,
    InvalidShelf,
    InvalidSize,
    InvalidText,
    InvalidTrack,
    InvalidWalk,
    InvalidWeave,
    InvalidWeb,
    InvalidWeights,
    InvalidWrites,
)
from slowshelves.desk import Desk
from slowshelves.endless import Walker
from slowshelves.hider import Hider
from slowshelves.house import House
from slowshelves.live import Live
from tests.support import ANY, NO_NUMBER, NO_SEQUENCE

HUGE = 10 ** 30
NO_PAIR = NO_SEQUENCE + ((), (1,), [2], (1, (), ()), [1, [], []], ((), ()), ([],))
SHELF = (4, (("list", (0, 1, 2)), ("ring", (1, 2, 3)), ("list", (3,))))
WEB = (4, ((0, 1), (1, 2), (2, 3), (1, 3)))
GOOD_LINKS = [(0, 1), [3, 1], (1, 0)]
GOOD_CHAINS = [("list", (0,)), ["ring", [3, 1, 2]]]
LAYOUT = (0, 0, 1, 2)
LISTS = (((5, 3), (7, 4)), (), ((2, 1),))
# Five touches with their gaps (0, 3) and (1, 4), and a run of them with two rooms.
TOUCHES = (0, 1, 2, 0, 1)
RUN = ((), (), (0,), (1,), (2,))
# Rows of two touches and of one.
CROWD = ((0, 1), (2,))
HOUSE = House(SHELF, 2, LAYOUT, 2, "last used")
STAR = (4, ((0, 1), (0, 2), (0, 3)))
# One of each class that is no error.
OBJECTS = (HOUSE, Live(HOUSE), Desk(), Walker(STAR, 3), Hider(STAR, 3, 1))


def wrong_places(good, wrong, error):
    """Rows with one wrong thing behind 0, 1, .. good ones, and another one behind it."""
    rows = []
    for at in range(len(good) + 1):
        for item in wrong:
            rows.append((good[:at] + [item], error(at)))
            rows.append((tuple(good[:at] + [item, item] + good[at:]), error(at)))
    return rows


def size(word, *wrong):
    return [(item, InvalidSize(word)) for item in NO_NUMBER + wrong]


def shelves():
    chains = NO_PAIR + (("list", ()), ("list", []), ("ring", (0, 1)), ("ring", ()), ("list", (4,)), ("list", (-1,)))
    chains += tuple(("list", (0, item)) for item in NO_NUMBER + (4, HUGE))
    chains += tuple((kind, (0, 1, 2)) for kind in (None, 0, True, "", "List", "lis", "rings", ("list",), ["ring"]))
    chains += tuple(("ring", row) for row in NO_SEQUENCE + ((0, 1, 0), (0, 1, 1), (1, 2, 3, 1)))
    chains += (("list", (2, 2)), ("list", (0, 1, 0)), ("list", {0: 1}.keys()))
    whole = [(item, InvalidShelf(-1)) for item in NO_PAIR]
    whole += [((item, [("bad",)]), InvalidShelf(-1)) for item in NO_NUMBER + (0, 201, HUGE)]
    whole += [((4, item), InvalidShelf(-1)) for item in NO_SEQUENCE]
    return whole + [((4, row), error) for row, error in wrong_places(GOOD_CHAINS, chains, InvalidShelf)]


def webs():
    links = NO_PAIR + ((0, 1, 2), (0,), (0, 0), (3, 3), (0, 4), (4, 0), (-1, 0), (0, HUGE))
    links += tuple((0, item) for item in NO_NUMBER) + tuple([item, 1] for item in NO_NUMBER)
    whole = [(item, InvalidWeb(-1)) for item in NO_PAIR]
    whole += [((item, [("bad",)]), InvalidWeb(-1)) for item in NO_NUMBER + (0, 41, HUGE)]
    whole += [((4, item), InvalidWeb(-1)) for item in NO_SEQUENCE]
    return whole + [((4, row), error) for row, error in wrong_places(GOOD_LINKS, links, InvalidWeb)]


def rows_of_four(error, limit):
    """Rows of four numbers below the limit with one wrong one, or of another length."""
    whole = [(item, error(-1)) for item in NO_SEQUENCE]
    whole += [(row, error(-1)) for row in ((), [], (0,), (0, 0, 0), (0, 1, 2, 3, 0), ["bad"], ("bad",) * 5)]
    rows = []
    for at in range(4):
        for item in NO_NUMBER + (limit, HUGE):
            rows.append(([0] * at + [item] + [0] * (3 - at), error(at)))
            rows.append(((0,) * at + (item,) * (4 - at), error(at)))
    return whole + rows


def layouts():
    """Wrong ones where a layout is passed alone."""
    whole = [(item, InvalidLayout(-1)) for item in NO_SEQUENCE + ((), [], (0,) * 201, ("bad",) * 201)]
    places = wrong_places([7, 7, 199], NO_NUMBER + (200, HUGE), InvalidLayout)
    return whole + places


def layouts_of_four():
    return rows_of_four(InvalidLayout, 200)


def roomy_layouts():
    """Wrong ones of four cells with two cells in a block at most."""
    more = [((5, 5, 5, 5), InvalidLayout(2)), ([5, 6, 5, 5], InvalidLayout(3)), ([1, 0, 1, 1], InvalidLayout(3))]
    more += [((5, 5, 5, "bad"), InvalidLayout(2)), ((5, True, 5, 5), InvalidLayout(1))]
    return [row for row in layouts_of_four() if not isinstance(row[0], (list, tuple)) or row[1].at < 2] + more


def folds():
    lacking = [(row, InvalidFold(-1)) for row in ((1, 1, 1, 1), [0, 2, 0, 2], (3, 3, 3, 3), (0, 1, 3, 0))]
    return rows_of_four(InvalidFold, 4) + lacking


def of_number(error, *wrong):
    return [(item, error(-1)) for item in NO_NUMBER + wrong]


def walks():
    """Wrong walks of WEB."""
    whole = [(item, InvalidWalk(-1)) for item in NO_SEQUENCE + ((), [], (0, 1) * 200 + (0,), ["bad"] * 401)]
    places = wrong_places([0, 1, 2], NO_NUMBER + (4, 40, HUGE), InvalidWalk)
    return whole + places + [
        ((0, 0), InvalidWalk(1)), ([0, 1, 1], InvalidWalk(2)), ((0, 2), InvalidWalk(1)), ((0, 1, 2, 0, 1), InvalidWalk(3)),
    ]


def touches():
    whole = [(item, InvalidWalk(-1)) for item in NO_SEQUENCE + ((), [], (0, 1) * 200 + (0,), ["bad"] * 401)]
    places = wrong_places([0, 39, 2], NO_NUMBER + (40, HUGE), InvalidWalk)
    return whole + places + [((0, 0), InvalidWalk(1)), ([0, 1, 1, 1], InvalidWalk(2)), ((5, 3, 3), InvalidWalk(2))]


def cell_rows(*more):
    """Wrong rows of the four cells."""
    whole = [(item, InvalidTrack(-1)) for item in NO_SEQUENCE + ((), [], (0, 1) * 500 + (0,), ["bad"] * 1001)]
    return whole + wrong_places([0, 1, 2], NO_NUMBER + (4, 200, HUGE), InvalidTrack) + list(more)


def lengths():
    whole = [(item, InvalidLengths(-1)) for item in NO_SEQUENCE + ((), [])]
    whole += [((8,) * 25 + (1,), InvalidLengths(25)), ([8] * 24 + [7, 2, "bad"], InvalidLengths(25))]
    whole += [([1] * 201, InvalidLengths(200)), ((8,) * 26, InvalidLengths(25))]
    return whole + wrong_places([1, 8, 3], NO_NUMBER + (0, 9, HUGE), InvalidLengths)


def arm_lengths():
    wrong = [item for item in NO_SEQUENCE] + [(200,), (100, 100), [1] * 200, (HUGE,)]
    wrong += [row for row, _ in wrong_places([1, 8, 3], NO_NUMBER + (0,), InvalidLengths)]
    return [(item, InvalidSize("lengths")) for item in wrong]


def lists():
    runs = NO_PAIR + ((1, 2, 3), (4, 0), (4, 61), (4, HUGE), (5, 1), [7, 2])
    runs += tuple((item, 1) for item in NO_NUMBER) + tuple([4, item] for item in NO_NUMBER)
    wrong = NO_SEQUENCE + tuple([run] for run in runs) + tuple(((8, 1), run, (9, 1)) for run in runs)
    wrong += (((8, 1), (8, 1)), [[8, 1], [9, 1], [8, 2]])
    whole = [(item, InvalidLists(-1)) for item in NO_SEQUENCE]
    places = []
    for item in wrong:
        places += [(([[5, 3], [7, 4]], item), InvalidLists(1)), ([((5, 3), (7, 4)), (), item, item], InvalidLists(2))]
    return whole + places


def edits():
    """Wrong edits of LISTS."""
    wrong = list(NO_SEQUENCE) + [(), ("put",), ("put", 0), ("put", 0, 0, 0), ("Put", 0, 0), ("", 0, 0), ("lay", 0, 1)]
    wrong += [(word, 0, 1) for word in (None, 0, True, ("put",), ["put"], InvalidEdit())]
    for word in ("put", "take", "cut", "join"):
        wrong += [(word, item, 1) for item in NO_NUMBER + (3, HUGE)] + [[word, 0, item] for item in NO_NUMBER + (HUGE,)]
    wrong += [("put", 0, 8), ("put", 1, 1), ("put", 2, 2), ("take", 0, 7), ("take", 1, 0), ("take", 2, 1)]
    wrong += [("cut", 0, 0), ("cut", 0, 7), ("cut", 1, 0), ("cut", 2, 0), ("cut", 2, 1), ("join", 0, 0), ("join", 2, 2)]
    wrong += [("join", 0, 3)]
    return [(item, InvalidEdit()) for item in wrong]


def many_rooms():
    """Wrong rooms for TOUCHES."""
    whole = [(item, InvalidRooms(-1)) for item in NO_NUMBER + (0, 6, HUGE, (1,) * 4, [2] * 6, ["bad"] * 6, ("bad",) * 4)]
    rows = []
    for at in range(5):
        for item in NO_NUMBER + (0, 6, HUGE):
            rows.append(([5] * at + [item] + [1] * (4 - at), InvalidRooms(at)))
            rows.append(((1,) * at + (item,) * (5 - at), InvalidRooms(at)))
    return whole + rows


def gaps():
    """Wrong gaps of TOUCHES."""
    wrong = NO_PAIR + ((0, 4), (3, 0), (0, 1), (1, 3), (4, 5), (0, 3, 4), (-1, 3), (HUGE, HUGE), (0, 0))
    wrong += tuple((0, item) for item in NO_NUMBER) + tuple([item, 3] for item in NO_NUMBER) + ((True, 4), (False, 3))
    whole = [(item, InvalidGaps(-1)) for item in NO_SEQUENCE]
    again = [(((0, 3), [0, 3]), InvalidGaps(1)), ([[1, 4], (0, 3), (1, 4), 7], InvalidGaps(2))]
    return whole + wrong_places([(1, 4), [0, 3]], wrong, InvalidGaps) + again


def runs():
    """Wrong runs of TOUCHES with two rooms."""
    whole = [(item, InvalidRun(-1)) for item in NO_SEQUENCE]
    lots = NO_SEQUENCE + ((3,), (-1,), (HUGE,), (0, 1), (0, 1, 2), (0, 0), ("0",), (None,), ((0,),), (False,), [True, 2])
    rows = [(RUN[:at], InvalidRun(at)) for at in range(5)] + [(RUN + (item,), InvalidRun(5)) for item in lots + ((),)]
    for at in range(5):
        own = ((TOUCHES[at],), (0,) if at < 2 else ())
        for item in lots + own:
            rows.append((RUN[:at] + (item,) + RUN[at + 1:], InvalidRun(at)))
            rows.append((list(RUN[:at]) + [item], InvalidRun(at)))
    return whole + rows


def rules():
    """Wrong rules for two rooms."""
    good = [(0, (), -1, 0, 1, -1), [1, [0, 1], 0, 2, 0, 1]]
    rows = NO_SEQUENCE + ((), (0,), (0, (), -1, 1, 1), (0, (), -1, 1, 1, -1, -1), (0, (1,), 1, 1, 0, -1), (0, (0, 1, 2), 0, 3, 0, 0))
    rows += ((0, (2, 1), 1, 0, 0, 1), (0, (1, 1), 1, 0, 0, 1), (0, (1, 2), 3, 0, 0, 1), (0, (1, 2), -1, 0, 0, 1), (0, (), 0, 1, 0, -1))
    rows += ((0, (1, 2), 1, 0, 0, -1), (0, (1, 2), 1, 0, 0, 0), (0, (1, 2), 1, 2, 0, 1), (0, (1,), 1, 0, 0, 1), (0, (40,), 40, 1, 0, -1))
    for item in NO_NUMBER + (HUGE,):
        rows += ((item, (1, 2), 1, 0, 0, 1), (0, (1, 2), item, 0, 0, 1), (0, (1, 2), 1, item, 0, 1), [0, [1, 2], 1, 0, item, 1])
        rows += ((0, (1, 2), 1, 0, 0, item), (0, (1, item), 1, 0, 0, 1))
        if not isinstance(item, (list, tuple)):
            rows += ((0, item, 1, 0, 0, 1),)
    rows += ((2, (), -1, 1, 1, -1), (0, (), -1, 1, 2, -1), (0, (), -1, 40, 1, -1))
    whole = [(item, InvalidRule(-1)) for item in NO_PAIR + ("last", "lastused", "first in ", "First in", ("last used",))]
    whole += [((item, ["bad"]), InvalidRule(-1)) for item in NO_NUMBER + (0, 721, HUGE, "last used")]
    whole += [((2, item), InvalidRule(-1)) for item in NO_SEQUENCE]
    again = [((2, (good[0], good[0])), InvalidRule(1)), ([2, [good[1], good[0], good[1][:4] + [1, 0]]], InvalidRule(2))]
    return whole + [((2, row), error) for row, error in wrong_places(good, rows, InvalidRule)] + again


def moments(error):
    """Wrong rows of unlike moments of TOUCHES."""
    whole = [(item, error(-1)) for item in NO_SEQUENCE + OBJECTS]
    again = [((1, 1), error(1)), ([0, 4, 2, 0, "bad"], error(3)), ((0, 1, 2, 3, 4, 0), error(5))]
    return whole + wrong_places([3, 0, 4], NO_NUMBER + OBJECTS + (5, HUGE), error) + again


def one_gap():
    """Wrong gaps of TOUCHES."""
    wrong = NO_PAIR + OBJECTS + ((0, 4), (3, 0), (0, 1), (1, 3), (4, 5), (0, 3, 4), (-1, 3), (HUGE, HUGE), (0, 0))
    wrong += tuple((0, item) for item in NO_NUMBER) + tuple([item, 3] for item in NO_NUMBER) + ((True, 4), (False, 3))
    return [(item, InvalidGaps(-1)) for item in wrong]


def weights():
    """Wrong weights of TOUCHES."""
    good = [(1, 9), [0, 1], (2, 5)]
    pairs = NO_PAIR + OBJECTS + ((1, 9, 1), (3, 1), (-1, 1), (HUGE, 1), (0, 0), (0, 10), (1, HUGE), [2, -1])
    pairs += tuple((item, 1) for item in NO_NUMBER) + tuple([0, item] for item in NO_NUMBER)
    whole = [(item, InvalidWeights(-1)) for item in NO_SEQUENCE + OBJECTS + ((), good[:2], tuple(good) + ((3, 1),), ["bad"] * 4)]
    places = [(good[:at] + [pair] + good[at + 1:], InvalidWeights(at)) for at in range(3) for pair in pairs]
    places += [(tuple(good[:at]) + (pair,) * (3 - at), InvalidWeights(at)) for at in range(3) for pair in pairs]
    return whole + places + [(((1, 9), (1, 9), "bad"), InvalidWeights(1)), ([(1, 9), (0, 1), [1, 2]], InvalidWeights(2))]


def tolls():
    """Wrong tolls of TOUCHES."""
    whole = [(item, InvalidPrices(-1)) for item in NO_SEQUENCE + OBJECTS + ((), (0,) * 4, [0] * 6, ["bad"] * 4, ("bad",) * 6)]
    rows = []
    for at in range(5):
        for item in NO_NUMBER + OBJECTS:
            rows.append(([3] * at + [item] + [0] * (4 - at), InvalidPrices(at)))
            rows.append(((HUGE,) * at + (item,) * (5 - at), InvalidPrices(at)))
    return whole + rows


def asked():
    """Wrong rows of unlike blocks of WEB."""
    whole = [(item, InvalidLot(-1)) for item in NO_SEQUENCE + OBJECTS]
    again = [((1, 1), InvalidLot(1)), ([0, 3, 2, 0, "bad"], InvalidLot(3)), ((0, 1, 2, 3, 0), InvalidLot(4))]
    return whole + wrong_places([3, 0, 2], NO_NUMBER + OBJECTS + (4, 40, HUGE), InvalidLot) + again


def begins():
    """Wrong begins on WEB."""
    whole = [(item, InvalidBegins(-1)) for item in NO_SEQUENCE + OBJECTS + ((), (0,), [3], (0,) * 5, ["bad"] * 5, ("bad",))]
    rows = []
    for many in (2, 3, 4):
        for at in range(many):
            for item in NO_NUMBER + OBJECTS + (4, 40, HUGE):
                rows.append(([3] * at + [item] + [0] * (many - 1 - at), InvalidBegins(at)))
                rows.append(((0,) * at + (item,) * (many - at), InvalidBegins(at)))
    return whole + rows


def weaves():
    """Wrong weaves on WEB from (0, 2)."""
    good = [(1, 2), [0, 0], (0, 1), (1, 3)]
    pairs = NO_PAIR + OBJECTS + ((0, 0, 0), (2, 0), (-1, 0), (HUGE, 0), (0, 4), (0, HUGE), (1, 0))
    pairs += tuple((item, 1) for item in NO_NUMBER) + tuple([0, item] for item in NO_NUMBER)
    whole = [(item, InvalidWeave(-1)) for item in NO_SEQUENCE + OBJECTS + ((), [], [(0, 0)] * 401, ["bad"] * 401)]
    first = [([(0, 1)], InvalidWeave(0)), (((1, 3),), InvalidWeave(0)), ([(0, 0), (1, 1)], InvalidWeave(1))]
    later = [([(0, 0), (0, 2)], InvalidWeave(1)), (((0, 0), (1, 2), (1, 0)), InvalidWeave(2))]
    return whole + wrong_places(good, pairs, InvalidWeave) + first + later


def no_words():
    return ANY + OBJECTS + ("last", "lastused", "last  used", "Last used", " last used", ("last used",), ["first in"])


def houses():
    parts = (SHELF, 2, LAYOUT, 2, "last used")
    return [(item, InvalidHouse(-1)) for item in ANY + OBJECTS[1:] + (parts, list(parts))]


def deeds():
    """Wrong deeds of HOUSE."""
    wrong = list(ANY + OBJECTS) + [["cell"], ["chain", "list", (0,)], ("Cell",), ("cell", 0), ("cell", ()), ("calm", 0), ("",), (("cell",),)]
    wrong += [("chain",), ("chain", "list"), ("chain", "list", (0,), 0), ("chain", ("list", (0,))), ("chain", "ring", (0, 1)), ("chain", "list", ())]
    wrong += [("chain", kind, (0, 1, 2)) for kind in NO_NUMBER + ("rings", "List", 0) if kind != "list"]
    wrong += [("chain", "list", row) for row in NO_SEQUENCE + ((4,), (0, 0), (0, True), ("0",))]
    wrong += [(word,) for word in ("strike", "move", "join", "lay", "room", "rooms", "rule")]
    wrong += [(word, 0, 1, 2) for word in ("strike", "move", "join", "lay", "room", "rooms", "rule")]
    wrong += [("strike", 0, 0), ("move", 0), ("join", 0), ("lay", LAYOUT, LAYOUT), ("room", 2, 2), ("rooms", 2, 2), ("rule", "last used", 0)]
    wrong += [("strike", item) for item in NO_NUMBER + (3, HUGE)]
    wrong += [("move", item, 0) for item in NO_NUMBER + (4, HUGE)] + [("move", 0, item) for item in NO_NUMBER + (4, HUGE)]
    wrong += [("join", item, 0) for item in NO_NUMBER + (3, HUGE)] + [("join", 0, item) for item in NO_NUMBER + (3, HUGE)]
    wrong += [("join", at, at) for at in range(3)]
    wrong += [("lay", row) for row in NO_SEQUENCE + ((), (0,) * 3, (0,) * 5, (0, 0, 0, 200), [0, True, 0, 0], ("0",) * 4)]
    wrong += [("room", item) for item in NO_NUMBER + (0, 9, HUGE)] + [("rooms", item) for item in NO_NUMBER + (0, 6, HUGE)]
    wrong += [("rule", item) for item, _ in rules()]
    return [(item, InvalidDeed(-1)) for item in wrong if item != ("calm",)]


def look_words():
    wrong = ANY + OBJECTS + ("Calm", "calm ", "walked", "cross", ("calm",), ["laid"], "boxes")
    return [(item, InvalidCommand()) for item in wrong if item != "calm"]


def walked_tracks():
    """Wrong tracks of HOUSE."""
    long = [((0,) * 401, InvalidTrack(-1)), ([0] * 1001, InvalidTrack(-1)), (["bad"] * 401, InvalidTrack(-1))]
    tracks = [row for row in KINDS["track"] if not (isinstance(row[0], (list, tuple)) and len(row[0]) > 400)]
    return tracks + long


def crowd_rows():
    rows = NO_SEQUENCE + ((), [], (0,) * 61) + tuple((0, item) for item in NO_NUMBER + (40, HUGE))
    whole = [(item, InvalidRows(-1)) for item in NO_SEQUENCE + ((), [], ((0,),) * 5, ["bad"] * 5)]
    return whole + wrong_places([(0, 0, 39), [7]], rows, InvalidRows)


def orders():
    """Wrong orders of CROWD."""
    whole = [(item, InvalidOrder(-1)) for item in NO_SEQUENCE]
    short = [((), InvalidOrder(0)), ([0], InvalidOrder(1)), ((1, 0), InvalidOrder(2)), ((0, 0), InvalidOrder(2))]
    many = [((0, 0, 0, 1), InvalidOrder(2)), ((1, 1, "bad"), InvalidOrder(1)), ((0, 1, 0, 0), InvalidOrder(3))]
    return whole + short + many + wrong_places([0, 1, 0], NO_NUMBER + (2, HUGE), InvalidOrder)


def answers():
    whole = [(item, InvalidAnswers(-1)) for item in NO_SEQUENCE]
    return whole + wrong_places([0, HUGE, 7], NO_NUMBER + (-HUGE,), InvalidAnswers)


def texts(good):
    """No strings, and beginnings of a good text with a sign behind them that is in no text."""
    wrong = [(item, InvalidText(-1)) for item in ANY if not isinstance(item, str)]
    between = [at for at in range(1, len(good)) if " " in good[at - 1:at + 1] or "\n" in good[at - 1:at + 1]]
    return wrong + [(good[:at] + "?" + good[at:], InvalidText(at)) for at in [0] + between + [len(good)]]


KINDS = {
    "shelf": shelves(),
    "web": webs(),
    "layout": layouts(),
    "layout beside": layouts_of_four(),
    "layout in 2": roomy_layouts(),
    "layout number": layouts_of_four(),
    "fold": folds(),
    "block": of_number(InvalidBlock, 4, 40, HUGE),
    "rooms": of_number(InvalidRooms, 0, 6, HUGE),
    "room": of_number(InvalidRoom, 0, 9, HUGE),
    "one": [(item, InvalidBlock(0)) for item in NO_NUMBER + (3, HUGE)],
    "other": [(item, InvalidBlock(1)) for item in NO_NUMBER + (3, HUGE)],
    "cells to 200": size("cells", 0, 201, HUGE),
    "cells from 3": size("cells", 0, 1, 2, 201, HUGE),
    "cells to 30": size("cells", 0, 31, HUGE),
    "cells to 40": size("cells", 0, 41, HUGE),
    "touches": touches(),
    "touches to 400": size("touches", 0, 401, HUGE),
    "index": of_number(InvalidIndex, HUGE ** 2),
    "walk": walks(),
    "track": cell_rows(((0, 3), InvalidTrack(1)), ([1, 0, 2, 0], InvalidTrack(2)), ((3, 3, 0), InvalidTrack(2))),
    "way": cell_rows(((0, 3), InvalidTrack(1)), ([1, 2, 2], InvalidTrack(2)), ((0, 0), InvalidTrack(1))),
    "row of cells": cell_rows(),
    "least": size("least", 0, 3, 4, HUGE),
    "lists": lists(),
    "edit": edits(),
    "rows": size("rows", 0),
    "columns": size("columns", 0),
    "arms": arm_lengths(),
    "lengths": lengths(),
    "ahead": size("ahead", 41, HUGE),
    "cell": of_number(InvalidCell, 4, HUGE),
    "many rooms": many_rooms(),
    "gaps": gaps(),
    "run": runs(),
    "rule": rules(),
    "crowd rows": crowd_rows(),
    "order": orders(),
    "index to 100": of_number(InvalidIndex, 101, HUGE),
    "paper": [(item, InvalidPaper(-1)) for item in ANY],
    "answers": answers(),
    "behind": size("behind", 0, 10, HUGE),
    "shelf text": texts("shelf 4\nlist 0 1\nring 3 2 1"),
    "layout text": texts("block 0 3\nblock 2 1"),
    "web text": texts("web 4\n1 to 0 2 3"),
    "walk text": texts("0 1 2 3 1 0"),
    "any": [],
    "prices": moments(InvalidPrices),
    "writes": moments(InvalidWrites),
    "gap": one_gap(),
    "weights": weights(),
    "tolls": tolls(),
    "asked": asked(),
    "begins": begins(),
    "weave": weaves(),
    "rule word": [(item, InvalidRule(-1)) for item in no_words()],
    "house": houses(),
    "deed": deeds(),
    "look word": look_words(),
}
KINDS["track in a house"] = walked_tracks()
