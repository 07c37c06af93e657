"""Parts of shelves in levels and in trees of lots, and shelves laid calm."""

from slowshelves.blocks import MOST_ROOM, need_room, need_rooms
from slowshelves.calm import rows_paper
from slowshelves.common import (
    far_rows,
    hanging_parts,
    is_below,
    is_integer,
    linked_rows,
    numbered,
    reached_row,
    rows_within,
)
from slowshelves.crossings import cross_holds
from slowshelves.errors import InvalidCell, InvalidSize
from slowshelves.folds import level_rows, lot_tree
from slowshelves.shelves import linked_cells, need_shelf

MOST_PART_CELLS = 12


def part_levels(shelf, cell, room):
    """Some levels of the part of this cell, or None."""
    rows, part = _need_part(shelf, cell)
    return _told_levels(rows, part, need_room(room))


def part_tree(shelf, cell, room):
    """Some tree of lots of the part of this cell, or None."""
    rows, part = _need_part(shelf, cell)
    return _told_tree(rows, part, need_room(room))


def _need_part(shelf, cell):
    """For each cell those linked to it, and the part of the cell, ascending."""
    shelf = need_shelf(shelf)
    if not is_below(cell, shelf[0]):
        raise InvalidCell(-1)
    rows = linked_cells(shelf)
    return rows, tuple(sorted(reached_row(rows, cell)))


def _is_ring(rows, part):
    return all([len(rows[cell]) == 2 for cell in part])


def _is_tree(rows, part):
    return sum([len(rows[cell]) for cell in part]) == 2 * len(part) - 2


def _is_arms(rows, part):
    """Whether the part is a tree in which at most one cell has more than two neighbours."""
    return _is_tree(rows, part) and len([cell for cell in part if len(rows[cell]) > 2]) <= 1


def _is_refused(rows, part, rooms):
    """Whether the part is too great for the way in which so many rooms want it laid."""
    told = _is_ring(rows, part) or (_is_tree(rows, part) if rooms == 2 else _is_arms(rows, part))
    return len(part) > MOST_PART_CELLS and not told


def _told_levels(rows, part, room):
    if _is_refused(rows, part, 3):
        raise InvalidSize("cells")
    if _is_arms(rows, part):
        return _arms_levels(rows, part, room)
    if _is_ring(rows, part):
        return _ring_levels(rows, part, room)
    return level_rows(rows, part, room)


def _told_tree(rows, part, room):
    if _is_refused(rows, part, 2):
        raise InvalidSize("cells")
    if _is_tree(rows, part):
        return _single_lots(rows, part)
    if _is_ring(rows, part):
        return _chained(_ring_levels(rows, part, room))
    return lot_tree(rows, part, room)


def _single_lots(rows, part):
    """A tree of lots of one cell each."""
    order = reached_row(rows, part[0])
    numbers = {cell: at for at, cell in enumerate(order)}
    pairs = [((part[0],), -1)]
    for cell in order[1:]:
        pairs.append(((cell,), min([numbers[other] for other in rows[cell]])))
    return tuple(pairs)


def _chained(levels):
    """The levels as a tree of lots."""
    if levels is None:
        return None
    return tuple([(lot, at - 1) for at, lot in enumerate(levels)])


def _ring_levels(rows, part, room):
    """The ring folded: its cells by how many steps they are from the first one."""
    if room < 2:
        return None
    return far_rows(rows, part[0])


def _arms_levels(rows, part, room):
    """Outwards from the middle on both sides room many arms; all others lie with the middle."""
    middle = max(part, key=lambda cell: len(rows[cell]))
    around = rows_within(rows, [cell for cell in part if cell != middle])
    arms = [reached_row(around, first) for first in rows[middle]]
    arms = sorted(arms, key=lambda arm: -len(arm))
    lot = sorted([cell for arm in arms[2 * room:] for cell in arm] + [middle])
    if len(lot) > room:
        return None
    one, other = [_side_levels(side) for side in (arms[:room], arms[room:2 * room])]
    return tuple(one[::-1] + [tuple(lot)] + other)


def _side_levels(arms):
    """The cells of the arms by how many steps they are from the middle."""
    most = max([len(arm) for arm in arms], default=0)
    return [tuple(sorted([arm[steps] for arm in arms if steps < len(arm)])) for steps in range(most)]


def laid_paper(shelf, room, rooms):
    """Some paper that shows whether the shelf can be laid calm."""
    shelf = need_shelf(shelf)
    need_room(room)
    need_rooms(rooms)
    rows = linked_cells(shelf)
    parts = hanging_parts(rows)
    _need_told_parts([part for part in parts if rooms > 1 and len(part) > rooms * room], rows, rooms)
    lots = []
    for part in parts:
        found = _part_lots(rows, part, room, rooms)
        if found is None:
            return "tried", part[0]
        lots.extend(found)
    blocks = {cell: at for at, lot in enumerate(lots) for cell in lot}
    return "laid", numbered([blocks[cell] for cell in range(shelf[0])])


def _need_told_parts(parts, rows, rooms):
    for part in parts:
        if _is_refused(rows, part, rooms):
            raise InvalidSize("cells")


def _part_lots(rows, part, room, rooms):
    """The cells of the part in blocks, so that it is calm, or None."""
    if rooms == 1 or len(part) <= rooms * room:
        return [part[at:at + room] for at in range(0, len(part), room)]
    if rooms > 2:
        return _told_levels(rows, part, room)
    pairs = _told_tree(rows, part, room)
    return None if pairs is None else [lot for lot, _ in pairs]


def least_room(shelf, rooms):
    """The least room with which the shelf can be laid calm, or None."""
    shelf = need_shelf(shelf)
    need_rooms(rooms)
    rows = linked_cells(shelf)
    parts = hanging_parts(rows)
    _need_told_parts(parts if rooms > 1 else (), rows, rooms)
    for room in range(1, MOST_ROOM + 1):
        if all([_part_lots(rows, part, room, rooms) is not None for part in parts]):
            return room
    return None


def laid_holds(shelf, room, rooms, value):
    """Whether any value is such a paper."""
    shelf = need_shelf(shelf)
    need_room(room)
    need_rooms(rooms)
    if not isinstance(value, tuple) or len(value) not in (2, 3):
        return False
    rows = linked_cells(shelf)
    if value[0] == "laid":
        return len(value) == 2 and _is_calm_layout(rows, room, rooms, value[1])
    if rooms == 1:
        return False
    if value[0] == "cross":
        return cross_holds(shelf, room, value[1:]) and _is_great(rows, value[1][0][0], room, rooms)
    if not is_below(value[1], len(rows)) or not _is_great(rows, value[1], room, rooms):
        return False
    if value[0] == "ball" and len(value) == 3:
        return rooms > 2 and _is_full_ball(rows, room, value[1], value[2])
    if value[0] == "arms" and len(value) == 2:
        return rooms > 2 and _has_many_arms(rows, room, value[1])
    return value[0] == "tried" and len(value) == 2 and _has_none(rows, room, rooms, value[1])


def _is_calm_layout(rows, room, rooms, value):
    if not isinstance(value, tuple) or len(value) != len(rows):
        return False
    if not all([is_below(block, len(rows)) for block in value]) or numbered(value) != value:
        return False
    many = max(value) + 1
    if max([value.count(block) for block in range(many)]) > room:
        return False
    pairs = [(value[cell], value[other]) for cell, row in enumerate(rows) for other in row]
    links = sorted(set([pair for pair in pairs if pair[0] < pair[1]]))
    return rows_paper(linked_rows(many, links), rooms)[0] == "calm"


def _is_great(rows, cell, room, rooms):
    """Whether the cell's part has more cells than fit in memory; all that is told lies in one part."""
    return len(reached_row(rows, cell)) > rooms * room


def _is_full_ball(rows, room, cell, steps):
    """Whether more cells are so near to this one than levels have room for."""
    if not is_integer(steps) or steps < 0:
        return False
    near = sum([len(lot) for at, lot in enumerate(far_rows(rows, cell)) if at <= steps])
    return near > (2 * steps + 1) * room


def _has_many_arms(rows, room, cell):
    """Whether too many pieces are around the cell, and too much in those that lie beside it."""
    part = reached_row(rows, cell)
    around = rows_within(rows, [other for other in part if other != cell])
    pieces = sorted([len(reached_row(around, other)) for other in _firsts(around, rows[cell])], reverse=True)
    return len(pieces) > 2 * room and sum(pieces[2 * room:]) >= room


def _firsts(rows, numbers):
    """The numbers without those that hang together with one ahead of them."""
    firsts = []
    met = {}
    for number in numbers:
        if number not in met:
            firsts.append(number)
            met.update({other: True for other in reached_row(rows, number)})
    return firsts


def _has_none(rows, room, rooms, cell):
    part = tuple(sorted(reached_row(rows, cell)))
    return not _is_refused(rows, part, rooms) and _part_lots(rows, part, room, rooms) is None
