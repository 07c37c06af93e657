"""Gaps of touches, and runs in which the blocks of kept gaps stay."""

from slowshelves.blocks import MOST_ROOMS
from slowshelves.common import is_integer, is_lot, is_lot_of, is_pair, is_sequence, is_within
from slowshelves.errors import InvalidGaps, InvalidRooms, InvalidRun, Refused
from slowshelves.tracks import need_touches


def need_many_rooms(touches, value):
    """Any value as rooms, one number for each moment of the touches, which are some."""
    if is_within(value, 1, MOST_ROOMS):
        return (value,) * len(touches)
    if not is_sequence(value) or len(value) != len(touches):
        raise InvalidRooms(-1)
    for at, rooms in enumerate(value):
        if not is_within(rooms, 1, MOST_ROOMS):
            raise InvalidRooms(at)
    return tuple(value)


def need_gaps(touches, value):
    """Any value as unlike gaps of the touches, which are some."""
    if not is_sequence(value):
        raise InvalidGaps(-1)
    left = {gap: True for gap in touch_gaps(touches)}
    gaps = []
    for at, gap in enumerate(value):
        if not is_pair(gap) or not is_integer(gap[0]) or not is_integer(gap[1]):
            raise InvalidGaps(at)
        if (gap[0], gap[1]) not in left:
            raise InvalidGaps(at)
        gaps.append((gap[0], gap[1]))
        del left[gaps[-1]]
    return tuple(gaps)


def is_kept_lot(touches, rooms, value):
    """Whether any value is a lot, in tuples, of kept gaps of the touches, with rooms for each moment."""
    if not isinstance(value, tuple):
        return False
    gaps = {gap: True for gap in touch_gaps(touches)}
    for at, gap in enumerate(value):
        if not isinstance(gap, tuple) or len(gap) != 2 or not is_lot(gap) or gap not in gaps:
            return False
        if at > 0 and value[at - 1] >= gap:
            return False
    return first_overfull(rooms, value) is None


def need_run(touches, rooms, value):
    """Any value as a run of the touches, with rooms for each moment."""
    if not is_sequence(value):
        raise InvalidRun(-1)
    at = _first_wrong_lot(touches, rooms, value)
    if at is not None:
        raise InvalidRun(at)
    return tuple([tuple(lot) for lot in value])


def is_paper_run(touches, rooms, value):
    """Whether any value is a run of the touches, in tuples, with rooms for each moment."""
    if not isinstance(value, tuple) or not all([isinstance(lot, tuple) for lot in value]):
        return False
    return _first_wrong_lot(touches, rooms, value) is None


def _first_wrong_lot(touches, rooms, row):
    """The first moment at which the row is no run, or None."""
    memory = ()
    for at, block in enumerate(touches):
        if at == len(row) or not _is_out_lot(memory, rooms[at], block, row[at]):
            return at
        memory = memory_behind(memory, block, row[at])
    return None if len(row) == len(touches) else len(touches)


def _is_out_lot(memory, rooms, block, value):
    """Whether any value is a lot of as many blocks of the memory as go out for this one."""
    others = [other for other in memory if other != block]
    return is_lot_of(value, others) and len(value) == max(len(others) + 1 - rooms, 0)


def memory_behind(memory, block, lot):
    """The memory when the block was touched and those of the lot went out."""
    return tuple(sorted([other for other in memory if other != block and other not in lot] + [block]))


def touch_gaps(touches):
    """All gaps of the touches, which are some, ascending."""
    return staying_gaps(touches, ((),) * len(touches))


def walk_gaps(touches):
    """All gaps, ascending."""
    return touch_gaps(need_touches(touches))


def gap_loads(touches, gaps):
    """For each moment how many of the gaps go over it."""
    touches = need_touches(touches)
    return loads_of(len(touches), need_gaps(touches, gaps))


def loads_of(moments, gaps):
    """For each of so many moments how many of the gaps go over it."""
    loads = [0] * moments
    for first, last in gaps:
        for moment in range(first + 1, last):
            loads[moment] += 1
    return tuple(loads)


def are_kept(touches, rooms, gaps):
    """Whether over each moment go fewer gaps than there are rooms at it."""
    touches = need_touches(touches)
    rooms = need_many_rooms(touches, rooms)
    return first_overfull(rooms, need_gaps(touches, gaps)) is None


def first_overfull(rooms, gaps):
    """The first moment with too many of the gaps over it, or None."""
    for moment, load in enumerate(loads_of(len(rooms), gaps)):
        if load >= rooms[moment]:
            return moment
    return None


def kept_run(touches, rooms, gaps):
    """Some run in which the block of each of these gaps stays."""
    touches = need_touches(touches)
    rooms = need_many_rooms(touches, rooms)
    gaps = need_gaps(touches, gaps)
    moment = first_overfull(rooms, gaps)
    if moment is not None:
        raise Refused(moment)
    return staying_run(touches, rooms, gaps)


def staying_run(touches, rooms, gaps):
    """Some run in which the block of each of these kept gaps stays, with rooms for each moment."""
    ends = {first: last for first, last in gaps}
    stays = {}
    memory = ()
    run = []
    for at, block in enumerate(touches):
        stays[block] = ends.get(at, at)
        others = [other for other in memory if other != block]
        # Those whose kept gap goes over this moment are sorted behind all that may go.
        others = sorted(others, key=lambda other: (stays[other] > at, other))
        lot = tuple(sorted(others[:max(len(others) + 1 - rooms[at], 0)]))
        run.append(lot)
        memory = memory_behind(memory, block, lot)
    return tuple(run)


def run_gaps(touches, rooms, run):
    """All gaps whose block stays, ascending."""
    touches = need_touches(touches)
    rooms = need_many_rooms(touches, rooms)
    return staying_gaps(touches, need_run(touches, rooms, run))


def staying_gaps(touches, run):
    """All gaps of the touches whose block stays in the run of them, ascending."""
    gaps = []
    last = {}
    for at, block in enumerate(touches):
        if block in last:
            gaps.append((last[block], at))
        last[block] = at
        for other in run[at]:
            del last[other]
    return tuple(sorted(gaps))


def moves_of(touches, run):
    """How many moves a run of the touches makes."""
    return len(touches) - len(staying_gaps(touches, run))
