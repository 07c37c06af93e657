"""Forks of two ways with a common beginning: what two rooms cannot know ahead."""

from slowshelves.blocks import need_web, neighbours
from slowshelves.common import (
    hanging_parts,
    is_paper_row,
    linked_rows,
    need_size,
    rows_within,
    shortest_way,
)
from slowshelves.errors import InvalidSize

MOST_AHEAD = 40
MOST_FORK_BLOCKS = 8


def fork_ways(web, ahead):
    """Some fork with so many common steps, or None."""
    web = need_web(web)
    need_ahead(ahead)
    rows = _small_rows(web)
    for corner in _corners(rows):
        levels = _common_levels(rows, corner, ahead)
        if len(levels) > ahead:
            for common in levels[ahead]:
                fork = _fork_of(rows, corner, common)
                if fork is not None:
                    return fork
    return None


def need_ahead(value):
    """Any value, if it is a number of touches that can be seen ahead."""
    return need_size(value, 0, MOST_AHEAD, "ahead")


def _small_rows(web):
    """For each block those linked to it, if all parts are small enough to go through."""
    rows = linked_rows(web[0], web[1])
    if max([len(part) for part in hanging_parts(rows)]) > MOST_FORK_BLOCKS:
        raise InvalidSize("blocks")
    return rows


def _corners(rows):
    """All unlike (a, b, v) with a linked to b and b to v."""
    return [
        (one, between, touched)
        for between in range(len(rows))
        for one in rows[between]
        for touched in rows[between]
        if one != touched
    ]


def _common_levels(rows, corner, most):
    """For 0, 1, .. up to most common steps the rows from v on that go round a and b.

    Of rows over the same blocks with the same end there is one alone, since it does not
    matter in which order they were touched.
    """
    one, between, touched = corner
    levels = [[(touched,)]]
    while levels[-1] and len(levels) <= most:
        found = {}
        for row in levels[-1]:
            for block in rows[row[-1]]:
                if block not in row and block not in (one, between):
                    longer = row + (block,)
                    found.setdefault((block, tuple(sorted(longer))), longer)
        levels.append(list(found.values()))
    return levels


def _fork_of(rows, corner, row):
    """The corner's fork with this row from v on, or None."""
    one, between, touched = corner
    to_one = _way_round(rows, row, one, between)
    to_between = _way_round(rows, row, between, one)
    if to_one is None or to_between is None:
        return None
    return one, between, touched, row[1:], to_one, to_between


def _way_round(rows, row, last, barred):
    """Some way on from the end of the row to the last block, over none of the row or barred."""
    open_blocks = [block for block in range(len(rows)) if block not in row[:-1] and block != barred]
    way = shortest_way(rows_within(rows, open_blocks), row[-1], last)
    return None if way is None else way[1:]


def fork_holds(web, ahead, value):
    """Whether any value is a fork with so many common steps."""
    rows = neighbours(web)
    need_ahead(ahead)
    if not isinstance(value, tuple) or len(value) != 6:
        return False
    one, between, touched, common, to_one, to_between = value
    if not is_paper_row((one, between, touched), len(rows)):
        return False
    if not all([isinstance(row, tuple) for row in (common, to_one, to_between)]):
        return False
    if between not in rows[one] or touched not in rows[between] or len(common) != ahead:
        return False
    to_one_holds = _is_branch(rows, (touched, *common, *to_one), one, between)
    return to_one_holds and _is_branch(rows, (touched, *common, *to_between), between, one)


def _is_branch(rows, row, last, barred):
    """Whether the row is a walk of unlike blocks that ends in the last one and has no barred one."""
    if not is_paper_row(row, len(rows)) or row[-1] != last or barred in row:
        return False
    return all([row[at] in rows[row[at - 1]] for at in range(1, len(row))])


def longest_common(web):
    """The greatest number of common steps of a fork, or None."""
    rows = _small_rows(need_web(web))
    best = None
    for corner in _corners(rows):
        levels = _common_levels(rows, corner, MOST_FORK_BLOCKS)
        # A fork with fewer common steps is a beginning of one with more.
        while len(levels) > (0 if best is None else best + 1):
            if any([_fork_of(rows, corner, row) is not None for row in levels[-1]]):
                best = len(levels) - 1
            del levels[-1]
    return best
