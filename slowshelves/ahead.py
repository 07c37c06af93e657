"""Rules that see some touches ahead, and what two rooms need of it."""

from slowshelves.blocks import need_rooms, need_web, neighbours
from slowshelves.calm import is_calm
from slowshelves.common import reached_row, rows_within
from slowshelves.forks import longest_common, need_ahead
from slowshelves.gaps import memory_behind
from slowshelves.tracks import need_touches, need_walk
from slowshelves.turns import LAST_USED, NO_OUT, rule_turns, turns_along


def ahead_needed(web, rooms):
    """The least number of touches seen ahead with which some seer is never behind, or None."""
    web = need_web(web)
    need_rooms(rooms)
    if rooms == 2:
        common = longest_common(web)
        return 0 if common is None else common + 1
    return 0 if is_calm(web, rooms) else None


def two_room_rounds(walk):
    """Pairs of moments (s, t), one for each move that hindsight saves with two rooms."""
    pairs = []
    last = {}
    for at, block in enumerate(need_touches(walk)):
        if block in last:
            pairs.append((last[block], at))
            last = {walk[at - 1]: at - 1}
        last[block] = at
    return tuple(pairs)


def seer_run(web, rooms, walk, ahead):
    """The choices of a seer, as a run."""
    rows = neighbours(web)
    need_rooms(rooms)
    walk = need_walk(web, walk)
    need_ahead(ahead)
    if rooms == 2:
        return _two_room_run(rows, walk, ahead)
    outs = [out for _, out, _ in turns_along(rule_turns(rooms, LAST_USED), walk)]
    return tuple([() if out == NO_OUT else (out,) for out in outs])


def _two_room_run(rows, walk, ahead):
    memory = ()
    touched = []
    run = []
    for at, block in enumerate(walk):
        lot = ()
        if block not in memory and len(memory) == 2:
            elder = [other for other in memory if other != walk[at - 1]][0]
            firsts = _first_repeats(rows, touched, walk[at:at + 1 + ahead])
            goes = walk[at - 1] if elder in firsts and walk[at - 1] not in firsts else elder
            lot = (goes,)
        run.append(lot)
        memory = memory_behind(memory, block, lot)
        # Behind a repeat a new round begins with the touch ahead of it.
        touched = ([walk[at - 1]] if block in touched else touched) + [block]
    return tuple(run)


def _first_repeats(rows, touched, seen):
    """The touched blocks that can be the first repeat when seen, the touch at hand first, goes on."""
    row = []
    for block in seen:
        if block in row or (not row and block in touched):
            return []
        row.append(block)
        if block in touched:
            return [block]
    # No touched one is seen: those can be that a walk on comes to over blocks that are new.
    fresh = [block for block in range(len(rows)) if block not in touched and block not in row[:-1]]
    reached = reached_row(rows_within(rows, fresh), row[-1])
    return [block for block in touched if any([other in rows[block] for other in reached])]
