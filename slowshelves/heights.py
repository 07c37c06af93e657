"""How many cells of an edited list can stay in their blocks, from each place on.

A row tells for each cell its elder block, -1 for a new cell. A pair of heights at a place
is for when the block with cells on both sides of it is free, and for when it is taken.
"""

from slowshelves.common import is_integer

NO_BLOCK = -1


def cut_pairs(rows, cut):
    """For each list its row, and the block that it has to leave to the other one, or None."""
    if cut is None:
        return [(row, None) for row in rows]
    return [(row, cut[1] if at in (cut[0], cut[0] + 1) else None) for at, row in enumerate(rows)]


def _spans(row):
    """For each place and the end the block with cells on both sides, or None."""
    spans = [None] * (len(row) + 1)
    for place in range(1, len(row)):
        ahead = [block for block in row[:place] if block != NO_BLOCK]
        behind = [block for block in row[place:] if block != NO_BLOCK]
        if ahead and behind and ahead[-1] == behind[0]:
            spans[place] = behind[0]
    return spans


def _run_ends(sizes, many, place):
    """Where a run from this place can end; an only run may have fewer cells."""
    room, least = sizes
    ends = list(range(place + least, min(place + room, many) + 1))
    if place == 0 and 0 < many < least:
        ends.append(many)
    return ends


def _runs_from(sizes, row, spans, heights, barred, at):
    """All (stays, end, block) for runs from at, a pair (place, taken), that can go on."""
    place, taken = at
    runs = []
    for end in _run_ends(sizes, len(row), place):
        blocks = [block for block in row[place:end] if block not in (NO_BLOCK, barred)]
        if taken:
            blocks = [block for block in blocks if block != spans[place]]
        for block in sorted(set(blocks)) + [NO_BLOCK]:
            behind = heights[end][1 if _is_taken(spans, at, end, block) else 0]
            stay = 0 if block == NO_BLOCK else row[place:end].count(block)
            if behind != -1:
                runs.append((stay + behind, end, block))
    return runs


def _is_taken(spans, at, end, block):
    """Whether behind a run in this block the block on both sides of its end is taken."""
    place, taken = at
    if spans[end] is None:
        return False
    return block == spans[end] or (taken and spans[place] == spans[end])


def _best_stays(sizes, row, spans, heights, barred, at):
    return max([run[0] for run in _runs_from(sizes, row, spans, heights, barred, at)], default=-1)


def least_heights(sizes, row, barred):
    """For each place and the end how many cells can stay from there on, -1 where no runs fit."""
    spans = _spans(row)
    heights = [(0, 0) for _ in range(len(row) + 1)]
    for place in reversed(range(len(row))):
        heights[place] = (
            _best_stays(sizes, row, spans, heights, barred, (place, False)),
            _best_stays(sizes, row, spans, heights, barred, (place, True)),
        )
    return tuple(heights)


def staying_runs(sizes, row, heights, barred):
    """Some runs (block, cells), -1 for a new block, with as many cells that stay as can be."""
    spans = _spans(row)
    runs = []
    place = 0
    taken = False
    while place < len(row):
        found = _runs_from(sizes, row, spans, heights, barred, (place, taken))
        stays = heights[place][1 if taken else 0]
        end, block = [run[1:] for run in found if run[0] == stays][0]
        runs.append((block, end - place))
        taken = _is_taken(spans, (place, taken), end, block)
        place = end
    return runs


def shown_stays(heights, cut):
    """How many cells can stay by these heights, and which list leaves the cut block, or None."""
    stays = [free[0][0] for free, _ in heights]
    if cut is None:
        return sum(stays), None
    leaving = [left[0][0] for _, left in heights]
    first = cut[0]
    gains = (leaving[first] - stays[first], leaving[first + 1] - stays[first + 1])
    return sum(stays) + max(gains), first if gains[0] >= gains[1] else first + 1


def heights_hold(sizes, pair, value):
    """Whether any value is heights, perhaps greater ones, for a row and what it leaves."""
    row, barred = pair
    if not isinstance(value, tuple) or len(value) != 2:
        return False
    return _are_heights(sizes, row, None, value[0]) and _are_heights(sizes, row, barred, value[1])


def _are_heights(sizes, row, barred, value):
    if not isinstance(value, tuple) or len(value) != len(row) + 1:
        return False
    if not all([_is_height_pair(pair) for pair in value]) or value[-1] != (0, 0):
        return False
    spans = _spans(row)
    return all([
        value[place][1 if taken else 0] >= _best_stays(sizes, row, spans, value, barred, (place, taken))
        for place in range(len(row))
        for taken in (False, True)
    ])


def _is_height_pair(value):
    if not isinstance(value, tuple) or len(value) != 2:
        return False
    return all([is_integer(height) and height >= -1 for height in value])
