"""One list laid in runs, trees of blocks and folded rings, and their least shares."""

from itertools import combinations
from math import gcd

from slowshelves.blocks import need_room, need_rooms, need_web
from slowshelves.common import is_sequence, is_within, linked_rows, need_size, numbered, reached_row, shortest_way
from slowshelves.errors import InvalidLengths, InvalidSize, Refused
from slowshelves.shelves import MOST_CELLS

MOST_LENGTH = 8
MOST_BEST_CELLS = 40


def need_lengths(value):
    """Any value as lengths of runs."""
    if not is_sequence(value) or not value:
        raise InvalidLengths(-1)
    cells = 0
    for at, length in enumerate(value):
        if not is_within(length, 1, MOST_LENGTH) or cells + length > MOST_CELLS:
            raise InvalidLengths(at)
        cells += length
    return tuple(value)


def length_layout(lengths):
    """The layout of a list in runs of these lengths, one behind another."""
    lengths = need_lengths(lengths)
    return tuple([run for run, length in enumerate(lengths) for _ in range(length)])


def list_share(lengths, rooms):
    """The least share of a list in runs of these lengths, (moves, steps)."""
    lengths = need_lengths(lengths)
    return _share_of(lengths, _greatest_stretch(lengths, need_rooms(rooms)), rooms)


def _greatest_stretch(lengths, rooms):
    """The least (first run, last run) of a stretch with the greatest share, or None."""
    best = None
    best_share = (0, 1)
    for first in range(len(lengths)):
        for last in range(first + rooms, len(lengths)):
            share = _stretch_share(lengths, (first, last), rooms)
            if _is_less(best_share, share):
                best = (first, last)
                best_share = share
    return best


def _stretch_share(lengths, stretch, rooms):
    """Moves and steps of a stretch, from its first run to its last, not in lowest terms."""
    first, last = stretch
    return last - first + 1 - rooms, 1 + sum(lengths[first + 1:last])


def _share_of(lengths, stretch, rooms):
    if stretch is None:
        return 0, 1
    return _lowest(_stretch_share(lengths, stretch, rooms))


def _lowest(share):
    """The share without a common divisor but 1."""
    moves, steps = share
    divisor = gcd(moves, steps)
    return moves // divisor, steps // divisor


def best_stretch(lengths, rooms):
    """The least (first run, last run) of a stretch with the greatest share, or None."""
    lengths = need_lengths(lengths)
    return _greatest_stretch(lengths, need_rooms(rooms))


def swing_way(lengths, rooms):
    """The way along the best stretch, from the end of its first run, and back."""
    stretch = best_stretch(lengths, rooms)
    if stretch is None:
        raise Refused(-1)
    first, last = stretch
    low = sum(lengths[:first + 1]) - 1
    high = sum(lengths[:last])
    return tuple(list(range(low, high + 1)) + list(range(high - 1, low - 1, -1)))


def best_runs(cells, room, rooms):
    """(moves, steps, rows): the least share of a list in runs of at most room cells, and its rows."""
    need_size(cells, 1, MOST_BEST_CELLS, "cells")
    need_room(room)
    need_rooms(rooms)
    # No row of more runs has a lesser share than the best of those with the fewest.
    rows = _rows_of_lengths(cells, room)
    shares = [list_share(row, rooms) for row in rows]
    moves, steps = _least_share(shares)
    kept = [row for row, share in zip(rows, shares) if share == (moves, steps)]
    return moves, steps, tuple(kept)


def _rows_of_lengths(cells, room):
    """All rows of the fewest lengths up to room that have together so many cells, ascending."""
    runs = (cells + room - 1) // room
    rows = []
    # What the runs lack of full ones is shared out: so many cells and runs, in a row.
    lacking = runs * room - cells
    for marks in combinations(range(lacking + runs - 1), int(runs - 1)):
        ends = [-1, *marks, lacking + runs - 1]
        rows.append(tuple([room - (ends[at + 1] - ends[at] - 1) for at in range(runs)]))
    return sorted(rows)


def _least_share(shares):
    best = shares[0]
    for share in shares:
        if _is_less(share, best):
            best = share
    return best


def _is_less(share, other):
    return share[0] * other[1] < other[0] * share[1]


def tree_share(web):
    """(moves, steps, way): the least share of a tree with two rooms, and some longest way."""
    many, links = need_web(web)
    rows = linked_rows(many, links)
    if many < 2 or len(links) != many - 1 or len(reached_row(rows, 0)) != many:
        raise Refused(-1)
    # What is farthest from anywhere in a tree is an end of a longest way.
    end = reached_row(rows, 0)[-1]
    way = shortest_way(rows, end, reached_row(rows, end)[-1])
    moves, steps = _lowest((len(way) - 2, len(way) - 1))
    return moves, steps, way


def folded_layout(cells, room):
    """The folded layout of a ring."""
    need_size(cells, 3, MOST_CELLS, "cells")
    if need_room(room) < 2:
        raise InvalidSize("room")
    layout = [0] * cells
    for place in range(cells):
        cell = cells - 1 - place // 2 if place & 1 else place // 2
        layout[cell] = place // room
    return numbered(layout)


def folded_share(cells, room, rooms):
    """The least share of a ring laid folded: that of the side with the greater one."""
    folded_layout(cells, room)
    need_rooms(rooms)
    one, other = [_side_share(cells, room, rooms, side) for side in (0, 1)]
    return other if _is_less(one, other) else one


def _side_share(cells, room, rooms, side):
    """The share of the cells at even places of the fold, or of those at odd ones."""
    lengths = [0] * ((cells + room - 1) // room)
    for place in range(side, cells, 2):
        lengths[place // room] += 1
    return _share_of(lengths, _greatest_stretch(lengths, rooms), rooms)
