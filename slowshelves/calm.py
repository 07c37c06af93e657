"""Calm webs, their papers, and where a rule can safely begin."""

from itertools import combinations

from slowshelves.blocks import MOST_ROOMS, need_rooms, need_web, neighbours
from slowshelves.common import hanging_parts, is_paper_row, linked_rows, reached_row, shortest_way
from slowshelves.errors import InvalidSize

MOST_SAFE_BLOCKS = 5


def calm_paper(web, rooms):
    """Some paper that shows whether the web is calm for so many rooms."""
    web = need_web(web)
    need_rooms(rooms)
    return rows_paper(neighbours(web), rooms)


def rows_paper(rows, rooms):
    """Some paper of a web of any size, told by what is linked to each block."""
    calm_rows = []
    for part in _big_parts(rows, rooms):
        kind, row = _part_paper(rows, part, rooms)
        if kind != "calm":
            return kind, row
        calm_rows.append(row)
    return "calm", tuple(calm_rows)


def _big_parts(rows, rooms):
    """The parts that the court looks at; with one room none, since nobody has a choice."""
    if rooms == 1:
        return []
    return [part for part in hanging_parts(rows) if len(part) > rooms]


def _part_paper(rows, part, rooms):
    """What is told of one big part: a kind of paper, and a row of blocks."""
    crossing = [block for block in part if len(rows[block]) > 2]
    if rooms > 2 and crossing:
        # Nearest ones first, so that three neighbours of the crossing are among them.
        return "fork", tuple(reached_row(rows, crossing[0])[:rooms + 1])
    ring = _part_ring(rows, part)
    if ring is not None:
        return "ring", ring
    ends = [block for block in part if len(rows[block]) == 1]
    return "calm", tuple(reached_row(rows, ends[0]))


def _part_ring(rows, part):
    """Some ring of blocks of the part without further links between them, or None."""
    for one in part:
        for other in rows[one]:
            # A shortest way beside a link has no shorter way across, so no further link.
            way = shortest_way(_rows_without(rows, one, other), one, other)
            if way is not None:
                return way
    return None


def _rows_without(rows, one, other):
    """What is linked to each block, one link left out."""
    left = list(rows)
    left[one] = [block for block in rows[one] if block != other]
    left[other] = [block for block in rows[other] if block != one]
    return left


def calm_holds(web, rooms, value):
    """Whether any value is a paper of this web and so many rooms."""
    web = need_web(web)
    need_rooms(rooms)
    if not isinstance(value, tuple) or len(value) != 2:
        return False
    rows = neighbours(web)
    kind, told = value
    if kind == "calm":
        return _calm_rows_hold(rows, rooms, told)
    if rooms == 1 or not is_paper_row(told, len(rows)):
        return False
    if kind == "fork":
        return _is_fork_row(rows, rooms, told)
    return kind == "ring" and len(told) > rooms and _is_ring_row(rows, told)


def _calm_rows_hold(rows, rooms, told):
    parts = _big_parts(rows, rooms)
    if not isinstance(told, tuple) or len(told) != len(parts):
        return False
    return all([_is_calm_row(rows, rooms, part, row) for part, row in zip(parts, told)])


def _is_calm_row(rows, rooms, part, row):
    if not is_paper_row(row, len(rows)) or tuple(sorted(row)) != part:
        return False
    for at in range(1, len(row)):
        ahead = [block for block in row[:at] if block in rows[row[at]]]
        if len(ahead) != 1 or (rooms > 2 and ahead[0] != row[at - 1]):
            return False
    return True


def _is_fork_row(rows, rooms, row):
    if len(row) != rooms + 1:
        return False
    for at in range(1, len(row)):
        if not any([block in rows[row[at]] for block in row[:at]]):
            return False
    many = [len([other for other in rows[block] if other in row]) for block in row]
    # Each link is counted at both of its blocks.
    return sum(many) > 2 * rooms or max(many) >= 3


def _is_ring_row(rows, row):
    if len(row) < 3:
        return False
    for at, block in enumerate(row):
        beside = sorted([row[at - 1], row[(at + 1) % len(row)]])
        if [other for other in rows[block] if other in row] != beside:
            return False
    return True


def is_calm(web, rooms):
    """Whether the web is calm for so many rooms."""
    return calm_paper(web, rooms)[0] == "calm"


def calm_rooms(web):
    """The numbers of rooms for which the web is calm."""
    web = need_web(web)
    return tuple([rooms for rooms in range(1, MOST_ROOMS + 1) if is_calm(web, rooms)])


def safe_begins(web, rooms):
    """All (memory, place) where some rule can begin and is never behind."""
    many, links = need_web(web)
    need_rooms(rooms)
    if many > MOST_SAFE_BLOCKS:
        raise InvalidSize("blocks")
    lots = list(combinations(range(many), rooms))
    begins = {(lot, place): (lot, place, _lot_gaps(lots, lot)) for lot in lots for place in lot}
    steps = _standing_steps(linked_rows(many, links), lots, list(begins.values()))
    safe = _safe_standings(steps)
    return tuple([begin for begin in sorted(begins) if safe[begins[begin]]])


def _lot_gaps(lots, lot):
    """For each lot how many of its blocks are not in the told one."""
    return tuple([len([block for block in other if block not in lot]) for other in lots])


# A standing is (memory, place, lead): lead tells for each lot by how many moves more than
# the rule hindsight comes to it at the least, moving blocks also ahead of their touches.
# That changes no least number, and keeps the leads few.


def _standing_steps(rows, lots, begins):
    """For each standing met, for each touch that may come, the standings to choose from."""
    between = [_lot_gaps(lots, lot) for lot in lots]
    steps = {}
    queue = list(begins)
    at = 0
    while at < len(queue):
        standing = queue[at]
        memory, place, lead = standing
        at += 1
        if standing in steps:
            continue
        if min(lead) < 0:
            steps[standing] = None
            continue
        steps[standing] = [_choices(lots, between, memory, block, lead) for block in rows[place]]
        for choices in steps[standing]:
            queue.extend(choices)
    return steps


def _choices(lots, between, memory, block, lead):
    """The standings that the rule can choose from when the block is touched."""
    serving = [at for at, lot in enumerate(lots) if block in lot]
    served = [min([lead[at] + between[at][to] for at in serving]) for to in range(len(lots))]
    if block in memory:
        return [(memory, block, tuple(served))]
    behind = tuple([moves - 1 for moves in served])
    kept = [[other for other in memory if other != out] for out in memory]
    return [(tuple(sorted(others + [block])), block, behind) for others in kept]


def _safe_standings(steps):
    """For each standing whether some choices keep the rule from ever falling behind."""
    safe = {standing: steps[standing] is not None for standing in steps}
    changed = True
    while changed:
        changed = False
        for standing in steps:
            if safe[standing] and not _can_stay(safe, steps[standing]):
                safe[standing] = False
                changed = True
    return safe


def _can_stay(safe, touches):
    for choices in touches:
        if not any([safe[choice] for choice in choices]):
            return False
    return True
