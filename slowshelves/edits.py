"""Lists laid in runs, edits of them, and the fewest cells that filled lists move."""

from slowshelves.blocks import MOST_BLOCKS, need_room
from slowshelves.common import is_below, is_integer, is_pair, is_sequence, is_within
from slowshelves.errors import InvalidEdit, InvalidLists, InvalidSize
from slowshelves.heights import NO_BLOCK, cut_pairs, heights_hold, least_heights, shown_stays, staying_runs

MOST_RUN_CELLS = 60


def need_lists(value):
    """Any value as lists of runs, in tuples."""
    if not is_sequence(value):
        raise InvalidLists(-1)
    seen = {}
    for at, row in enumerate(value):
        if not _is_list(row, seen):
            raise InvalidLists(at)
    return tuple([tuple([tuple(run) for run in row]) for row in value])


def _is_list(value, seen):
    """Whether any value is a list of runs, in blocks that are not seen; these are then."""
    if not is_sequence(value):
        return False
    for run in value:
        if not is_pair(run) or not is_integer(run[0]) or run[0] < 0 or run[0] in seen:
            return False
        if not is_within(run[1], 1, MOST_RUN_CELLS):
            return False
        seen[run[0]] = True
    return True


def need_edit(rows, value):
    """Any value as an edit, in a tuple; rows tells for each list the blocks of its cells."""
    if not is_sequence(value) or len(value) != 3:
        raise InvalidEdit()
    word, at, where = value
    if not is_below(at, len(rows)) or not _is_place(rows, word, at, where):
        raise InvalidEdit()
    return word, at, where


def _is_place(rows, word, at, where):
    many = len(rows[at])
    if word == "put":
        return is_within(where, 0, many)
    if word == "take":
        return is_below(where, many)
    if word == "cut":
        return is_within(where, 1, many - 1)
    return word == "join" and is_below(where, len(rows)) and where != at


def block_rows(lists):
    """For each list the blocks of its cells."""
    return [[block for block, cells in runs for _ in range(cells)] for runs in lists]


def edited_rows(rows, edit):
    word, at, where = edit
    row = rows[at]
    if word == "join":
        joined = rows[:at] + [row + rows[where]] + rows[at + 1:]
        return joined[:where] + joined[where + 1:]
    if word == "put":
        changed = [row[:where] + [NO_BLOCK] + row[where:]]
    elif word == "take":
        changed = [row[:where] + row[where + 1:]]
    else:
        changed = [row[:where], row[where:]]
    return rows[:at] + changed + rows[at + 1:]


def edit_rows(lists, edit):
    """For each list behind the edit the elder blocks of its cells, -1 for a new one."""
    rows = block_rows(need_lists(lists))
    return tuple([tuple(row) for row in edited_rows(rows, need_edit(rows, edit))])


def lists_web(lists):
    """The web of the lists: neighbouring runs of a list are linked."""
    lists = need_lists(lists)
    many = sum([len(runs) for runs in lists])
    if not 1 <= many <= MOST_BLOCKS:
        raise InvalidSize("blocks")
    links = []
    first = 0
    for runs in lists:
        links.extend([(block, block + 1) for block in range(first, first + len(runs) - 1)])
        first += len(runs)
    return many, tuple(links)


def _need_edited(room, least, lists, edit):
    """The elder blocks behind the edit, and (list, block) for a block that a cut goes through."""
    need_room(room)
    if not is_integer(least) or least < 1 or 2 * least > room + 1:
        raise InvalidSize("least")
    rows = block_rows(need_lists(lists))
    word, at, where = need_edit(rows, edit)
    if word == "cut" and rows[at][where - 1] == rows[at][where]:
        return edited_rows(rows, (word, at, where)), (at, rows[at][where])
    return edited_rows(rows, (word, at, where)), None


def _kept_cells(rows):
    return sum([1 for row in rows for block in row if block != NO_BLOCK])


def fill_paper(room, least, lists, edit):
    """Some (moved, filled, heights): the fewest cells that filled lists move, and why."""
    rows, cut = _need_edited(room, least, lists, edit)
    sizes = (room, least)
    heights = tuple([
        (least_heights(sizes, row, None), least_heights(sizes, row, barred))
        for row, barred in cut_pairs(rows, cut)
    ])
    stays, left_at = shown_stays(heights, cut)
    filled = []
    for at, row in enumerate(rows):
        barred = cut[1] if cut is not None and at == left_at else None
        filled.append(staying_runs(sizes, row, heights[at][0 if barred is None else 1], barred))
    return _kept_cells(rows) - stays, _with_new_blocks(rows, filled), heights


def _with_new_blocks(rows, filled):
    """The runs with numbers for new blocks that no cell had."""
    used = {block: True for row in rows for block in row}
    fresh = 0
    out = []
    for runs in filled:
        told = []
        for block, cells in runs:
            while fresh in used:
                fresh += 1
            told.append((fresh if block == NO_BLOCK else block, cells))
            used[told[-1][0]] = True
        out.append(tuple(told))
    return tuple(out)


def fill_holds(room, least, lists, edit, value):
    """Whether any value is such a triple."""
    rows, cut = _need_edited(room, least, lists, edit)
    if not isinstance(value, tuple) or len(value) != 3:
        return False
    moved, filled, heights = value
    if not is_integer(moved) or not _is_filled((room, least), rows, filled):
        return False
    if moved != moved_cells(rows, filled):
        return False
    if not isinstance(heights, tuple) or len(heights) != len(rows):
        return False
    pairs = cut_pairs(rows, cut)
    if not all([heights_hold((room, least), pairs[at], pair) for at, pair in enumerate(heights)]):
        return False
    return moved == _kept_cells(rows) - shown_stays(heights, cut)[0]


def _is_filled(sizes, rows, value):
    """Whether any value is filled lists, in tuples, with as many cells as the rows."""
    if not isinstance(value, tuple) or len(value) != len(rows):
        return False
    seen = {}
    return all([_are_filled_runs(sizes, len(row), runs, seen) for row, runs in zip(rows, value)])


def _are_filled_runs(sizes, many, value, seen):
    if not isinstance(value, tuple) or not _is_list(value, seen):
        return False
    if not all([isinstance(run, tuple) for run in value]):
        return False
    room, least = sizes
    low = 1 if len(value) == 1 else least
    return all([low <= cells <= room for _, cells in value]) and sum([cells for _, cells in value]) == many


def moved_cells(rows, filled):
    new_rows = block_rows(filled)
    return sum([
        1
        for row, new_row in zip(rows, new_rows)
        for block, new_block in zip(row, new_row)
        if block not in (NO_BLOCK, new_block)
    ])
