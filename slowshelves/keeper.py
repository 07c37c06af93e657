"""Lists that stay filled, whatever the edits, and the heights that pay for what they move."""

from slowshelves.blocks import need_room
from slowshelves.common import is_integer
from slowshelves.edits import block_rows, edited_rows, moved_cells, need_edit, need_lists
from slowshelves.errors import InvalidSize, Refused


def kept_edit(room, least, lists, edit):
    """(lists, moved): the lists behind the edit, still filled, and how many cells it moves."""
    need_room(room)
    if not is_integer(least) or least < 1 or 2 * least > room + 1 or 6 * least > room + 6:
        raise InvalidSize("least")
    lists = need_lists(lists)
    for at, runs in enumerate(lists):
        if not _is_filled(room, least, runs):
            raise Refused(at)
    rows = block_rows(lists)
    edit = need_edit(rows, edit)
    kept = [_refilled(room, least, runs) for runs in _edited_lists(room, [list(runs) for runs in lists], edit)]
    return tuple(kept), moved_cells(edited_rows(rows, edit), kept)


def _is_filled(room, least, runs):
    low = 1 if len(runs) == 1 else least
    return all([low <= cells <= room for _, cells in runs])


def _new_block(lists):
    """The least number that is no block."""
    used = {block: True for runs in lists for block, _ in runs}
    fresh = 0
    while fresh in used:
        fresh += 1
    return fresh


def _edited_lists(room, lists, edit):
    """The runs behind the edit, some perhaps with too few cells."""
    word, at, where = edit
    fresh = _new_block(lists)
    if word == "join":
        joined = lists[:at] + [lists[at] + lists[where]] + lists[at + 1:]
        return joined[:where] + joined[where + 1:]
    if word == "cut":
        return lists[:at] + _cut_runs(lists[at], where, fresh) + lists[at + 1:]
    runs = _put_runs(room, lists[at], where, fresh) if word == "put" else _taken_runs(lists[at], where)
    return lists[:at] + [runs] + lists[at + 1:]


def _run_of(runs, cell):
    """(number, cells ahead of it) of the run with this cell."""
    ahead = 0
    number = 0
    while ahead + runs[number][1] <= cell:
        ahead += runs[number][1]
        number += 1
    return number, ahead


def _put_runs(room, runs, where, fresh):
    if not runs:
        return [(fresh, 1)]
    number, ahead = _run_of(runs, max(where - 1, 0))
    block, cells = runs[number]
    grown = [(block, cells + 1)]
    if cells == room:
        first = (room + 1) // 2
        is_in_first = where - ahead < first
        one, other = (fresh, block) if is_in_first else (block, fresh)
        grown = [(one, first), (other, room + 1 - first)]
    return runs[:number] + grown + runs[number + 1:]


def _taken_runs(runs, where):
    number, _ = _run_of(runs, where)
    block, cells = runs[number]
    left = [(block, cells - 1)] if cells > 1 else []
    return runs[:number] + left + runs[number + 1:]


def _cut_runs(runs, where, fresh):
    """The two lists that a list is cut into."""
    number, ahead = _run_of(runs, where)
    if ahead == where:
        return [runs[:number], runs[number:]]
    block, cells = runs[number]
    first = where - ahead
    one, other = (fresh, block) if first < cells - first else (block, fresh)
    return [runs[:number] + [(one, first)], [(other, cells - first)] + runs[number + 1:]]


def _refilled(room, least, runs):
    """The runs with those of too few cells joined to others, or filled from them."""
    at = 0
    while at < len(runs):
        if runs[at][1] < least and len(runs) > 1:
            first = at if at + 1 < len(runs) else at - 1
            runs = runs[:first] + _evened(room, runs[first], runs[first + 1], at == first) + runs[first + 2:]
        at += 1
    return tuple(runs)


def _evened(room, one, other, is_one):
    """Two runs behind each other made one, or shared out; is_one tells whether the first had too few."""
    cells = one[1] + other[1]
    if cells <= room:
        return [(other[0] if other[1] > one[1] else one[0], cells)]
    half = cells // 2
    return [(one[0], half if is_one else cells - half), (other[0], cells - half if is_one else half)]


def fill_height(room, lists):
    """For each run by how much 2 cells is off room, for an only one above it, summed."""
    need_room(room)
    return sum([_run_height(room, runs, cells) for runs in need_lists(lists) for _, cells in runs])


def _run_height(room, runs, cells):
    return max(2 * cells - room, 0) if len(runs) == 1 else abs(2 * cells - room)
