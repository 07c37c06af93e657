"""Touches, walks, tracks and ways, what ways follow, folded walks, and walks by their numbers."""

from slowshelves.blocks import (
    MOST_BLOCKS,
    layout_beside,
    layout_web,
    need_fold,
    need_web,
    neighbours,
    plain_layout,
)
from slowshelves.common import is_below, is_sequence, need_size, rows_within, shortest_way, struck
from slowshelves.errors import InvalidIndex, InvalidTrack, InvalidWalk
from slowshelves.pieces import block_lot, cell_pieces, lots_hold, met_lots, next_lot, piece_blocks, piece_rows
from slowshelves.shelves import linked_cells, need_shelf

MOST_TOUCHES = 400
MOST_TRACK_CELLS = 1000


def _is_row_of(value, most):
    return is_sequence(value) and 1 <= len(value) <= most


def need_touches(value):
    """Any value as touches of whatever web."""
    if not _is_row_of(value, MOST_TOUCHES):
        raise InvalidWalk(-1)
    for at, block in enumerate(value):
        if not is_below(block, MOST_BLOCKS) or (at > 0 and block == value[at - 1]):
            raise InvalidWalk(at)
    return tuple(value)


def need_walk(web, value):
    """Any value as a walk of the web."""
    rows = neighbours(web)
    if not _is_row_of(value, MOST_TOUCHES):
        raise InvalidWalk(-1)
    at = _first_off(rows, value)
    if at is not None:
        raise InvalidWalk(at)
    return tuple(value)


def is_walk_on(rows, value):
    """Whether any value is a walk, in a tuple, of the web with these rows, as one that may be passed."""
    return is_long_walk_on(rows, value) and len(value) <= MOST_TOUCHES


def is_long_walk_on(rows, value):
    """Whether any value is a walk, in a tuple, however long, of the web with these rows."""
    return isinstance(value, tuple) and len(value) >= 1 and _first_off(rows, value) is None


def _first_off(rows, row):
    """The first place of the row with no number of these, or one not linked to the one ahead."""
    for at, number in enumerate(row):
        if not is_below(number, len(rows)) or (at > 0 and number not in rows[row[at - 1]]):
            return at
    return None


def need_track(shelf, layout, value):
    """Any value as a track: each cell linked to the one ahead or in its block."""
    shelf = need_shelf(shelf)
    layout = layout_beside(shelf, layout)
    if not _is_row_of(value, MOST_TRACK_CELLS):
        raise InvalidTrack(-1)
    rows = linked_cells(shelf)
    for at, cell in enumerate(value):
        if not is_below(cell, len(layout)):
            raise InvalidTrack(at)
        ahead = value[at - 1] if at > 0 else cell
        if cell not in rows[ahead] and layout[cell] != layout[ahead]:
            raise InvalidTrack(at)
    return tuple(value)


def need_way(shelf, value):
    """Any value as a way: each cell linked to the one ahead."""
    rows = linked_cells(shelf)
    if not _is_row_of(value, MOST_TRACK_CELLS):
        raise InvalidTrack(-1)
    at = _first_off(rows, value)
    if at is not None:
        raise InvalidTrack(at)
    return tuple(value)


def track_walk(layout, track):
    """The blocks of a row of cells, what is like the one ahead struck."""
    layout = plain_layout(layout)
    if not _is_row_of(track, MOST_TRACK_CELLS):
        raise InvalidTrack(-1)
    for at, cell in enumerate(track):
        if not is_below(cell, len(layout)):
            raise InvalidTrack(at)
    return struck([layout[cell] for cell in track])


def walk_track(shelf, layout, walk):
    """Some track whose walk this is, with at most twice as many cells."""
    web = layout_web(shelf, layout)
    walk = need_walk(web, walk)
    layout = plain_layout(layout)
    doors = _doors(shelf, layout)
    track = []
    for one, other in zip(walk, walk[1:]):
        track.extend(doors[(one, other)])
    return tuple(track) if track else (layout.index(walk[0]),)


def _doors(shelf, blocks):
    """For each pair of linked blocks, or pieces, the least linked cells, one of each."""
    doors = {}
    for cell, row in enumerate(linked_cells(shelf)):
        for other in row:
            doors.setdefault((blocks[cell], blocks[other]), (cell, other))
    return doors


def folded_walk(web, fold, walk):
    """The new blocks of a walk, what is like the one ahead struck."""
    web = need_web(web)
    fold = need_fold(web, fold)
    walk = need_walk(web, walk)
    return struck([fold[block] for block in walk])


def piece_layout(shelf, layout):
    """The layout whose blocks are the pieces."""
    shelf = need_shelf(shelf)
    return cell_pieces(shelf, layout_beside(shelf, layout))


def piece_lots(shelf, layout, walk):
    """For each touch of the walk the pieces in which ways along it can end."""
    web = layout_web(shelf, layout)
    walk = need_walk(web, walk)
    rows, blocks = _piece_web(shelf, layout)
    return tuple(_lots_along(rows, blocks, walk))


def _piece_web(shelf, layout):
    """For each piece those linked to it, and for each its block."""
    pieces = piece_layout(shelf, layout)
    return piece_rows(shelf, pieces), piece_blocks(plain_layout(layout), pieces)


def _lots_along(rows, blocks, walk):
    lots = [block_lot(blocks, walk[0])]
    for block in walk[1:]:
        lots.append(next_lot(rows, blocks, lots[-1], block))
    return lots


def walk_way(shelf, layout, walk):
    """Some way whose walk this is, or None."""
    web = layout_web(shelf, layout)
    walk = need_walk(web, walk)
    rows, blocks = _piece_web(shelf, layout)
    lots = _lots_along(rows, blocks, walk)
    if not lots[-1]:
        return None
    return _way_through(shelf, piece_layout(shelf, layout), _pieces_back(rows, lots))


def _pieces_back(rows, lots):
    """One piece of each lot, each linked to the next one."""
    row = [lots[-1][0]]
    for lot in reversed(lots[:-1]):
        row.append([piece for piece in lot if piece in rows[row[-1]]][0])
    return row[::-1]


def _way_through(shelf, pieces, row):
    """Some way along these pieces, each linked to the next one."""
    doors = _doors(shelf, pieces)
    rows = linked_cells(shelf)
    way = [pieces.index(row[0])]
    for piece, following in zip(row, row[1:]):
        door, entry = doors[(piece, following)]
        cells = [cell for cell in range(len(pieces)) if pieces[cell] == piece]
        way.extend(shortest_way(rows_within(rows, cells), way[-1], door)[1:])
        way.append(entry)
    return tuple(way)


def follow_paper(shelf, layout):
    """Some paper that shows whether each walk of the layout's web is followed."""
    web = layout_web(shelf, layout)
    rows, blocks = _piece_web(shelf, layout)
    lots, walk = met_lots(neighbours(web), rows, blocks)
    if walk is not None:
        return "walk", walk
    return "all", tuple([lot for _, lot in lots])


def follow_holds(shelf, layout, value):
    """Whether any value is such a paper."""
    web = layout_web(shelf, layout)
    rows, blocks = _piece_web(shelf, layout)
    if not isinstance(value, tuple) or len(value) != 2:
        return False
    kind, told = value
    if kind == "all":
        return lots_hold(neighbours(web), rows, blocks, told)
    if kind != "walk" or not is_long_walk_on(neighbours(web), told):
        return False
    return not _lots_along(rows, blocks, told)[-1]


def walk_count(web, touches):
    """How many walks of so many touches the web has."""
    rows = neighbours(web)
    need_size(touches, 1, MOST_TOUCHES, "touches")
    return sum(_walk_counts(rows, touches)[-1])


def _walk_counts(rows, touches):
    """For 0, 1, .. further touches, for each block, how many walks go on from it."""
    counts = [[1] * len(rows)]
    for _ in range(touches - 1):
        counts.append([sum([counts[-1][other] for other in row]) for row in rows])
    return counts


def nth_walk(web, touches, number):
    """The walk of so many touches of this number, walks ascending."""
    if not is_below(number, walk_count(web, touches)):
        raise InvalidIndex(-1)
    rows = neighbours(web)
    counts = _walk_counts(rows, touches)
    walk = []
    for left in reversed(range(touches)):
        following = _blocks_behind(rows, walk)
        at = 0
        while number >= counts[left][following[at]]:
            number -= counts[left][following[at]]
            at += 1
        walk.append(following[at])
    return tuple(walk)


def _blocks_behind(rows, walk):
    """The blocks that can be touched behind a walk, ascending; at first any one."""
    return rows[walk[-1]] if walk else tuple(range(len(rows)))


def walk_number(web, walk):
    """The number of the walk among those of as many touches."""
    walk = need_walk(web, walk)
    rows = neighbours(web)
    counts = _walk_counts(rows, len(walk))
    number = 0
    for at, block in enumerate(walk):
        left = len(walk) - 1 - at
        following = _blocks_behind(rows, walk[:at])
        number += sum([counts[left][other] for other in following if other < block])
    return number
