"""Grids and shelves of arms: how they can be laid calmly, and crosses, where they cannot."""

from slowshelves.blocks import need_room, need_rooms, run_layout
from slowshelves.common import is_integer, is_paper_row, is_sequence, numbered, reached_row, rows_within
from slowshelves.errors import InvalidSize
from slowshelves.shelves import MOST_CELLS, linked_cells


def cross_holds(shelf, room, value):
    """Whether any value is more than room rows and columns, each row crossing each column."""
    rows = linked_cells(shelf)
    need_room(room)
    if not isinstance(value, tuple) or len(value) != 2:
        return False
    if not _are_lanes(rows, room, value[0]) or not _are_lanes(rows, room, value[1]):
        return False
    row_of = {cell: at for at, lane in enumerate(value[0]) for cell in lane}
    return all([
        len(set([row_of[cell] for cell in lane if cell in row_of])) == len(value[0])
        for lane in value[1]
    ])


def _are_lanes(rows, room, value):
    """Whether any value is more than room lots that hang together, none with a cell of another."""
    if not isinstance(value, tuple) or len(value) <= room:
        return False
    if not all([_is_hanging_lot(rows, lot) for lot in value]):
        return False
    cells = [cell for lot in value for cell in lot]
    return len(set(cells)) == len(cells)


def _is_hanging_lot(rows, value):
    if not is_paper_row(value, len(rows)) or not value or list(value) != sorted(value):
        return False
    return len(reached_row(rows_within(rows, value), value[0])) == len(value)


def grid_shelf(rows, columns):
    """The shelf of a grid: its rows, then its columns, as lists."""
    _need_grid(rows, columns)
    across = _grid_rows(rows, columns) if columns > 1 else ()
    down = _grid_columns(rows, columns) if rows > 1 else ()
    return rows * columns, tuple([("list", lane) for lane in across + down])


def _need_grid(rows, columns):
    for size, word in ((rows, "rows"), (columns, "columns")):
        if not is_integer(size) or size < 1:
            raise InvalidSize(word)
    if rows * columns > MOST_CELLS:
        raise InvalidSize("cells")


def _grid_rows(rows, columns):
    return tuple([tuple(range(row * columns, (row + 1) * columns)) for row in range(rows)])


def _grid_columns(rows, columns):
    return tuple([tuple(range(column, rows * columns, columns)) for column in range(columns)])


def grid_paper(rows, columns, room, rooms):
    """Some paper of a grid: a calm layout, or a cross."""
    _need_grid(rows, columns)
    need_room(room)
    need_rooms(rooms)
    cells = rows * columns
    if rooms == 1 or rooms * room >= cells:
        return "laid", run_layout(cells, room)
    if rows <= room:
        return "laid", tuple([cell % columns for cell in range(cells)])
    if columns <= room:
        return "laid", tuple([cell // columns for cell in range(cells)])
    return "cross", _grid_rows(rows, columns), _grid_columns(rows, columns)


def grid_room(rows, columns, rooms):
    """The least room with which a grid can be laid calmly."""
    _need_grid(rows, columns)
    need_rooms(rooms)
    if rooms == 1:
        return 1
    return min(rows, columns, _shared_out(rows * columns, rooms))


def _shared_out(cells, rooms):
    """The least room with which so many blocks hold all the cells."""
    return (cells + rooms - 1) // rooms


def arms_shelf(lengths):
    """The shelf of cell 0 and arms of these lengths."""
    _need_arms(lengths)
    return 1 + sum(lengths), tuple([("list", (0, *arm)) for arm in _arms(lengths)])


def _need_arms(lengths):
    if not is_sequence(lengths) or not all([is_integer(length) and length >= 1 for length in lengths]):
        raise InvalidSize("lengths")
    if sum(lengths) >= MOST_CELLS:
        raise InvalidSize("lengths")


def _arms(lengths):
    """For each arm its cells, outwards."""
    arms = []
    first = 1
    for length in lengths:
        arms.append(tuple(range(first, first + length)))
        first += length
    return arms


def arms_paper(lengths, room, rooms):
    """Some paper of a shelf of arms: a calm layout, or its middle, which has too many arms."""
    _need_arms(lengths)
    need_room(room)
    need_rooms(rooms)
    cells = 1 + sum(lengths)
    if rooms == 1 or rooms * room >= cells:
        return "laid", run_layout(cells, room)
    if rooms == 2:
        # A tree with each cell by itself is a tree of blocks.
        return "laid", tuple(range(cells))
    if _middle_cells(lengths, room) <= room:
        return "laid", _arms_layout(lengths, room)
    return "arms", 0


def _middle_cells(lengths, room):
    """How many cells there are besides the longest arms, of which each side takes room many."""
    return 1 + sum(sorted(lengths, reverse=True)[2 * room:])


def _arms_layout(lengths, room):
    """Levels: the middle with the short arms, and outwards on both sides the cells of as many steps."""
    arms = sorted(_arms(lengths), key=len, reverse=True)
    levels = [0] * (1 + sum(lengths))
    for at, arm in enumerate(arms[:2 * room]):
        for steps, cell in enumerate(arm):
            levels[cell] = steps + 1 if at < room else -1 - steps
    return numbered(levels)


def arms_room(lengths, rooms):
    """The least room with which a shelf of arms can be laid calmly."""
    _need_arms(lengths)
    need_rooms(rooms)
    if rooms <= 2:
        return 1
    room = 1
    most = _shared_out(1 + sum(lengths), rooms)
    while room < most and _middle_cells(lengths, room) > room:
        room += 1
    return room
