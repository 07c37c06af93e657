"""Cursors that step by turns: whether the order of their steps can be met without knowing it."""

from slowshelves.blocks import need_rooms, need_web, neighbours
from slowshelves.common import (
    is_below,
    is_pair,
    is_sequence,
    reached_row,
    rows_within,
    shortest_way,
    struck,
)
from slowshelves.errors import InvalidBegins, InvalidWeave
from slowshelves.hindsight import fewest_moves
from slowshelves.rules import need_rule
from slowshelves.turns import rule_turns, turns_along

LEAST_CURSORS = 2
MOST_CURSORS = 4
MOST_WEAVE_PAIRS = 400


def _need_begins(web, value):
    """Any value as the blocks on which cursors begin."""
    if not is_sequence(value) or not LEAST_CURSORS <= len(value) <= MOST_CURSORS:
        raise InvalidBegins(-1)
    for at, block in enumerate(value):
        if not is_below(block, web[0]):
            raise InvalidBegins(at)
    return tuple(value)


def _is_weave_row(value):
    return is_sequence(value) and 1 <= len(value) <= MOST_WEAVE_PAIRS


def _first_wrong_pair(rows, begins, row):
    """The first place of the row with no pair that can come there, or None."""
    places = list(begins)
    stepped = {}
    for at, pair in enumerate(row):
        if not is_pair(pair) or not is_below(pair[0], len(begins)) or not is_below(pair[1], len(rows)):
            return at
        cursor, block = pair
        if block != places[cursor] and (cursor not in stepped or block not in rows[places[cursor]]):
            return at
        places[cursor] = block
        stepped[cursor] = True
    return None


def weave_touches(web, begins, weave):
    """The blocks of the weave, of alike neighbours only one."""
    web = need_web(web)
    begins = _need_begins(web, begins)
    if not _is_weave_row(weave):
        raise InvalidWeave(-1)
    at = _first_wrong_pair(neighbours(web), begins, weave)
    if at is not None:
        raise InvalidWeave(at)
    return struck([block for _, block in weave])


def is_weave_calm(web, rooms, begins):
    """Whether some rule that doesn't know what comes moves on no weave more than hindsight."""
    web = need_web(web)
    need_rooms(rooms)
    return _is_calm(neighbours(web), rooms, _need_begins(web, begins))


def _is_calm(rows, rooms, begins):
    reached = [block for begin in begins for block in reached_row(rows, begin)]
    return rooms == 1 or len(set(reached)) <= rooms


# The cursors go to one block more than there are rooms, each one in a region of its own; or, where
# all begin on one block, one of them goes to all, and one stays. When the last block is touched,
# some cursor can go to the block that goes out without touching some other one, of those that
# were in memory, again: that one hindsight let go.


def weave_paper(web, rooms, begins, rule):
    """That it is calm, or some weave on which the rule moves more than hindsight."""
    web = need_web(web)
    need_rooms(rooms)
    begins = _need_begins(web, begins)
    rule = need_rule(rooms, rule)
    rows = neighbours(web)
    if _is_calm(rows, rooms, begins):
        return ("calm",)
    goers = _goers(rows, rooms, begins)
    weave = _gathering(rows, goers)
    if len(set(begins)) == 1:
        weave = [(1, begins[1])] + weave
        goers = {block: 1 for block in goers}
    out = turns_along(rule_turns(rooms, rule), struck([block for _, block in weave]))[-1][1]
    place = [block for cursor, block in weave if cursor == goers[out]][-1]
    return "weave", tuple(weave + _steps_to(rows, goers, place, out))


def _goers(rows, rooms, begins):
    """One block more than rooms, in turn, each with the cursor that goes there, over blocks of its own."""
    goers = {}
    waiting = list(enumerate(begins))
    at = 0
    while len(goers) <= rooms:
        cursor, block = waiting[at]
        at += 1
        if block not in goers:
            goers[block] = cursor
            waiting.extend([(cursor, other) for other in rows[block]])
    return goers


def _gathering(rows, goers):
    """A weave, as a list, in which the cursors go to their blocks in turn."""
    places = {}
    gone = {}
    weave = []
    for block in goers:
        cursor = goers[block]
        gone[block] = cursor
        weave.extend(_steps_to(rows, gone, places.get(cursor, block), block))
        places[cursor] = block
    return weave


def _steps_to(rows, goers, place, block):
    """Pairs of the block's cursor, which goes there from its place over its blocks, or touches it again."""
    cursor = goers[block]
    region = [other for other in goers if goers[other] == cursor]
    way = shortest_way(rows_within(rows, region), place, block)
    return [(cursor, step) for step in way[1:] or way]


def weave_holds(web, rooms, begins, rule, value):
    """Whether any value is such a paper."""
    web = need_web(web)
    need_rooms(rooms)
    begins = _need_begins(web, begins)
    rule = need_rule(rooms, rule)
    rows = neighbours(web)
    if not isinstance(value, tuple) or not 1 <= len(value) <= 2:
        return False
    if len(value) == 1:
        return value[0] == "calm" and _is_calm(rows, rooms, begins)
    kind, weave = value
    if kind != "weave" or not isinstance(weave, tuple) or not _is_weave_row(weave):
        return False
    if not all([isinstance(pair, tuple) for pair in weave]) or _first_wrong_pair(rows, begins, weave) is not None:
        return False
    touches = struck([block for _, block in weave])
    moves = sum([moved for moved, _, _ in turns_along(rule_turns(rooms, rule), touches)])
    return moves > fewest_moves(touches, (rooms,) * len(touches))
