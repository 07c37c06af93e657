"""Blocks that are asked for in any order: walks that touch them all with the fewest steps or moves."""

from itertools import permutations

from slowshelves.blocks import need_block, need_rooms, need_web, neighbours
from slowshelves.common import (
    far_rows,
    first_no_new_number,
    is_sequence,
    lane_row,
    reached_row,
    rows_within,
    shortest_way,
)
from slowshelves.errors import InvalidLot, InvalidSize, Refused
from slowshelves.gaps import memory_behind

MOST_ASKED = 6
MOST_ORDER_BLOCKS = 8


def _need_asked(web, place, asked):
    """(rows, asked): what is linked to each block, and blocks that can all be walked to from the place."""
    web = need_web(web)
    need_block(web, place)
    if not is_sequence(asked):
        raise InvalidLot(-1)
    at = first_no_new_number(asked, web[0])
    if at is not None:
        raise InvalidLot(at)
    rows = neighbours(web)
    part = reached_row(rows, place)
    apart = [block for block in asked if block not in part]
    if apart:
        raise Refused(min(apart))
    return rows, tuple(asked)


def order_steps(web, place, asked):
    """The fewest steps from the place to all blocks that are asked for."""
    rows, asked = _need_asked(web, place, asked)
    if len(asked) > MOST_ASKED:
        raise InvalidSize("asked")
    steps = {block: _steps_from(rows, block) for block in (place, *asked)}
    return min([_row_steps(steps, (place, *order)) for order in permutations(list(asked))])


def _steps_from(rows, first):
    """For each block that hangs together with the first how many steps away it is."""
    return {block: away for away, lot in enumerate(far_rows(rows, first)) for block in lot}


def _row_steps(steps, row):
    return sum([steps[one][other] for one, other in zip(row, row[1:])])


def order_paper(web, place, asked, rooms):
    """Some (moves, walk, run) with the fewest moves of any run of any walk to all asked ones."""
    rows, asked = _need_asked(web, place, asked)
    need_rooms(rooms)
    if len(reached_row(rows, place)) > MOST_ORDER_BLOCKS:
        raise InvalidSize("blocks")
    moves = _fewest_moves(rows, place, asked, rooms)
    walk, run = _walk_of(rows, place, moves)
    return len(moves) + 1, walk, run


# Within the blocks in memory that hang together a walk goes without a move. So a standing is
# (memory, least, left): the memory, the least block of its part with the place in it, and the
# asked ones that were not touched.


def _fewest_moves(rows, place, asked, rooms):
    """The moves behind the first one, as few as can be: rows (block, what goes out)."""
    first = ((place,), place, tuple([block for block in asked if block != place]))
    ahead = {first: None}
    waiting = [first]
    at = 0
    while waiting[at][2]:
        standing = waiting[at]
        at += 1
        for move in _next_moves(rows, rooms, standing):
            behind = _standing_behind(rows, standing, move)
            if behind not in ahead:
                ahead[behind] = (standing, move)
                waiting.append(behind)
    moves = []
    standing = waiting[at]
    while ahead[standing] is not None:
        standing, move = ahead[standing]
        moves.append(move)
    return moves[::-1]


def _next_moves(rows, rooms, standing):
    memory, least, _ = standing
    here = reached_row(rows_within(rows, memory), least)
    beside = sorted(set([block for place in here for block in rows[place] if block not in memory]))
    lots = [(out,) for out in memory] if len(memory) == rooms else [()]
    return [(block, lot) for block in beside for lot in lots]


def _standing_behind(rows, standing, move):
    memory, _, left = standing
    block, lot = move
    memory = memory_behind(memory, block, lot)
    here = reached_row(rows_within(rows, memory), block)
    return memory, min(here), tuple([other for other in left if other != block])


def _walk_of(rows, place, moves):
    """(walk, run): from the place to the block of each move, through the blocks in memory."""
    walk = [place]
    run = [()]
    memory = (place,)
    for block, lot in moves:
        way = shortest_way(rows_within(rows, (*memory, block)), walk[-1], block)
        walk.extend(way[1:])
        run.extend([()] * (len(way) - 2) + [lot])
        memory = memory_behind(memory, block, lot)
    return tuple(walk), tuple(run)


def told_moves(web, place, asked, rooms):
    """The fewest moves, if the place's part is a line, a ring, or with few rooms a tree; else None."""
    rows, asked = _need_asked(web, place, asked)
    need_rooms(rooms)
    part = reached_row(rows, place)
    ends = [block for block in part if len(rows[block]) < 2]
    greatest = max([len(rows[block]) for block in part])
    is_tree = sum([len(rows[block]) for block in part]) == 2 * len(part) - 2
    if is_tree and greatest <= 2:
        return _line_moves(lane_row(rows, ends[0]), place, asked, rooms)
    if greatest == 2 and not ends:
        ring = lane_row(rows, place)
        return min([_line_moves(ring[at:] + ring[:at], place, asked, rooms) for at in range(len(ring))])
    return _tree_moves(rows, place, asked, rooms) if is_tree and rooms <= 2 else None


def _line_moves(line, place, asked, rooms):
    """The nearer end first, and back to the place and on."""
    places = sorted([line.index(block) for block in (place, *asked)])
    here = line.index(place)
    near, far = sorted([here - places[0], places[-1] - here])
    return 1 + near + far + max(near - rooms + 1, 0)


def _tree_moves(rows, place, asked, rooms):
    """Of the blocks on the ways to the asked ones all but the longest way are gone along to and fro."""
    ways = [shortest_way(rows, place, block) for block in asked]
    blocks = sorted(set([block for way in ways for block in way]))
    if len(blocks) < 2:
        return 1
    links = len(blocks) - 1
    farthest = max([len(way) - 1 for way in ways])
    if rooms == 1:
        return 1 + 2 * links - farthest
    within = rows_within(rows, blocks)
    ends = [block for block in blocks if block != place and len(within[block]) == 1]
    return 2 + 2 * links - len(ends) - farthest
