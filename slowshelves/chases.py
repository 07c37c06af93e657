"""Where a walker can gain without end: forks and rings of blocks, and how it goes there."""

from slowshelves.calm import rows_paper
from slowshelves.common import hanging_parts, reached_row, rows_within, shortest_way


def gaining_row(rows, rooms):
    """(whether it is a fork, its blocks): a fork of a web that is not calm, or else a ring."""
    for part in hanging_parts(rows):
        row = _part_fork(rows, part, rooms) if len(part) > rooms else None
        if row is not None:
            return True, tuple(row)
    return False, rows_paper(rows, rooms)[1]


def _part_fork(rows, part, rooms):
    """The blocks of some fork in a part of more blocks than rooms, each linked to one ahead, or None."""
    if rooms == 2:
        return _triangle(rows, part)
    crossing = [block for block in part if len(rows[block]) > 2]
    if crossing:
        return reached_row(rows, crossing[0])[:rooms + 1]
    # A ring of one block more than there are rooms is a fork, too.
    is_ring = all([len(rows[block]) == 2 for block in part])
    return reached_row(rows, part[0]) if is_ring and len(part) == rooms + 1 else None


def _triangle(rows, part):
    for one in part:
        for other in rows[one]:
            for third in rows[other]:
                if third in rows[one]:
                    return one, other, third
    return None


def tour_of(rows, row):
    """A walk over all blocks of a row that hangs together, each tree of ways gone along but twice."""
    within = rows_within(rows, row)
    met = {row[0]: True}
    way = [row[0]]
    tour = [row[0]]
    while len(met) < len(row):
        further = [block for block in within[way[-1]] if block not in met]
        if further:
            met[further[0]] = True
            way.append(further[0])
        else:
            way.pop()
        tour.append(way[-1])
    return tuple(tour)


def aside_block(rows, row, block, out):
    """A block of the fork aside of a shortest way between two, without which the others hang together."""
    way = shortest_way(rows, block, out)
    for aside in row:
        others = [other for other in row if other != aside]
        if aside not in way and len(reached_row(rows_within(rows, others), others[0])) == len(others):
            return aside
    return None
