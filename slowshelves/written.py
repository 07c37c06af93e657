"""Blocks with weights, and blocks that are written: what moves cost, and tolls that show it."""

from itertools import combinations

from slowshelves.common import first_no_new_number, is_integer, is_pair, is_sequence, is_within
from slowshelves.errors import InvalidPrices, InvalidSize, InvalidWeights, InvalidWrites, Refused
from slowshelves.gaps import (
    is_kept_lot,
    is_paper_run,
    need_many_rooms,
    need_run,
    staying_gaps,
    staying_run,
    touch_gaps,
)
from slowshelves.lanes import heaviest_gaps
from slowshelves.tracks import need_touches

MOST_WEIGHT = 9
MOST_WRITTEN_BLOCKS = 8


def _need_weights(touches, value):
    """Any value as weights, a dict: one for each block of the touches."""
    if not is_sequence(value) or len(value) != len(set(touches)):
        raise InvalidWeights(-1)
    weights = {}
    for at, pair in enumerate(value):
        if not is_pair(pair) or not is_integer(pair[0]) or pair[0] not in touches or pair[0] in weights:
            raise InvalidWeights(at)
        if not is_within(pair[1], 1, MOST_WEIGHT):
            raise InvalidWeights(at)
        weights[pair[0]] = pair[1]
    return weights


def _need_tolls(touches, value):
    """Any value as tolls, one for each moment."""
    if not is_sequence(value) or len(value) != len(touches):
        raise InvalidPrices(-1)
    for at, toll in enumerate(value):
        if not _is_number(toll):
            raise InvalidPrices(at)
    return tuple(value)


def _is_number(value):
    return is_integer(value) and value >= 0


def _are_paper_tolls(touches, value):
    return isinstance(value, tuple) and len(value) == len(touches) and all([_is_number(toll) for toll in value])


def _room_tolls(rooms, tolls):
    """The tolls, each times one less than there are rooms."""
    return sum([toll * (many - 1) for toll, many in zip(tolls, rooms)])


def _tolls_under(tolls, gap):
    return sum(tolls[gap[0] + 1:gap[1]])


def toll_bound(touches, rooms, weights, tolls):
    """What no run costs less than, by these tolls."""
    touches = need_touches(touches)
    rooms = need_many_rooms(touches, rooms)
    weights = _need_weights(touches, weights)
    return _bound_of(touches, rooms, weights, _need_tolls(touches, tolls))


def _bound_of(touches, rooms, weights, tolls):
    spared = [max(weights[touches[gap[0]]] - _tolls_under(tolls, gap), 0) for gap in touch_gaps(touches)]
    return _cost_of(touches, weights, ()) - _room_tolls(rooms, tolls) - sum(spared)


def _cost_of(touches, weights, gaps):
    """The weights of the touches that end none of the gaps."""
    ends = {last: True for _, last in gaps}
    return sum([weights[block] for at, block in enumerate(touches) if at not in ends])


def weighed_paper(touches, rooms, weights):
    """Some (cost, gaps, tolls): kept gaps, and tolls that show that no run costs less."""
    touches = need_touches(touches)
    rooms = need_many_rooms(touches, rooms)
    return _weighed(touches, rooms, _need_weights(touches, weights))


def _weighed(touches, rooms, weights):
    spaces = [many - 1 for many in rooms]
    gaps, tolls = heaviest_gaps(spaces, {gap: weights[touches[gap[0]]] for gap in touch_gaps(touches)})
    return _cost_of(touches, weights, gaps), gaps, tolls


def weighed_holds(touches, rooms, weights, value):
    """Whether any value is such a triple."""
    touches = need_touches(touches)
    rooms = need_many_rooms(touches, rooms)
    weights = _need_weights(touches, weights)
    if not isinstance(value, tuple) or len(value) != 3:
        return False
    cost, gaps, tolls = value
    if not is_integer(cost) or not is_kept_lot(touches, rooms, gaps) or not _are_paper_tolls(touches, tolls):
        return False
    return cost == _cost_of(touches, weights, gaps) == _bound_of(touches, rooms, weights, tolls)


def _need_writes(touches, value):
    """Any value as writes: unlike moments of the touches."""
    if not is_sequence(value):
        raise InvalidWrites(-1)
    at = first_no_new_number(value, len(touches))
    if at is not None:
        raise InvalidWrites(at)
    return tuple(value)


def written_cost(touches, rooms, writes, run):
    """What the run costs: its moves, and each block that goes out, or is left, written."""
    touches = need_touches(touches)
    rooms = need_many_rooms(touches, rooms)
    writes = _need_writes(touches, writes)
    return _run_cost(touches, writes, need_run(touches, rooms, run))


def _run_cost(touches, writes, run):
    stretches = _stretches(touches, staying_gaps(touches, run))
    return len(stretches) + len([row for row in stretches if any([at in writes for at in row])])


def _stretches(touches, gaps):
    """The moments of touches joined by gaps of one block each."""
    joined = {last: first for first, last in gaps}
    rows = {}
    for at in range(len(touches)):
        # All moments of a stretch share one list.
        rows[at] = rows[joined[at]] if at in joined else []
        rows[at].append(at)
    return [rows[at] for at in rows if rows[at][0] == at]


def written_paper(touches, rooms, writes):
    """Some (cost, run) with the least cost of any run."""
    touches = need_touches(touches)
    rooms = need_many_rooms(touches, rooms)
    writes = _need_writes(touches, writes)
    if len(set(touches)) > MOST_WRITTEN_BLOCKS:
        raise InvalidSize("blocks")
    return _least_written(touches, rooms, writes)


# A standing is what is in memory: pairs (block, 1 if it is written, else 0), ascending.


def _least_written(touches, rooms, writes):
    levels = [{(): (0, None, ())}]
    for at, block in enumerate(touches):
        found = {}
        for standing in levels[-1]:
            for behind, more, lot in _written_steps(standing, block, at in writes, rooms[at]):
                cost = levels[-1][standing][0] + more
                if behind not in found or found[behind][0] > cost:
                    found[behind] = (cost, standing, lot)
        levels.append(found)
    last = min(list(levels[-1]), key=lambda standing: levels[-1][standing][0] + _written_blocks(standing))
    cost = levels[-1][last][0] + _written_blocks(last)
    run = []
    for level in reversed(levels[1:]):
        _, last, lot = level[last]
        run.append(lot)
    return cost, tuple(run[::-1])


def _written_blocks(standing):
    return sum([written for _, written in standing])


def _written_steps(standing, block, writes, rooms):
    """For each lot that may go out (standing behind, cost, lot)."""
    others = [pair for pair in standing if pair[0] != block]
    written = max([pair[1] for pair in standing if pair[0] == block], default=0)
    move = 1 if len(others) == len(standing) else 0
    touched = (block, 1 if writes else written)
    steps = []
    for pairs in _all_lots(others, max(len(others) + 1 - rooms, 0)):
        behind = tuple(sorted([pair for pair in others if pair not in pairs] + [touched]))
        steps.append((behind, move + _written_blocks(pairs), tuple([pair[0] for pair in pairs])))
    return steps


def _all_lots(row, many):
    """All lots of so many things of the row."""
    return list(combinations(row, many))


def writes_bound(touches, rooms, writes, tolls):
    """What no run costs less than, by these tolls."""
    touches = need_touches(touches)
    rooms = need_many_rooms(touches, rooms)
    writes = _need_writes(touches, writes)
    return _writes_bound_of(touches, rooms, writes, _need_tolls(touches, tolls))


def _writes_bound_of(touches, rooms, writes, tolls):
    least = [_least_alone(touches, block, writes, tolls) for block in sorted(set(touches))]
    return sum(least) - _room_tolls(rooms, tolls)


def _least_alone(touches, block, writes, tolls):
    """The least cost of one block that pays tolls wherever it stays."""
    moments = [at for at, other in enumerate(touches) if other == block]
    # The least costs where a touch of the stretch at hand that writes costs 1 more, and where it is paid.
    clean = 1
    written = 2
    for at, moment in enumerate(moments):
        if at > 0:
            toll = _tolls_under(tolls, (moments[at - 1], moment))
            least = min(clean, written)
            clean = min(clean + toll, least + 1)
            written = min(written + toll, least + 2)
        if moment in writes:
            clean = written = min(written, clean + 1)
    return min(clean, written)


def even_paper(touches, rooms, writes):
    """Some (cost, run, tolls): a run, and tolls that show that no run costs less."""
    touches = need_touches(touches)
    rooms = need_many_rooms(touches, rooms)
    weights = _need_even(touches, _need_writes(touches, writes))
    cost, gaps, tolls = _weighed(touches, rooms, weights)
    return cost, staying_run(touches, rooms, gaps), tolls


def _need_even(touches, writes):
    """For each block what a move of it costs, if all touches of it write, or none."""
    weights = {}
    for block in sorted(set(touches)):
        moments = [at for at, other in enumerate(touches) if other == block]
        writing = [at for at in moments if at in writes]
        if writing and len(writing) < len(moments):
            raise Refused(block)
        weights[block] = 2 if writing else 1
    return weights


def even_holds(touches, rooms, writes, value):
    """Whether any value is such a triple."""
    touches = need_touches(touches)
    rooms = need_many_rooms(touches, rooms)
    writes = _need_writes(touches, writes)
    _need_even(touches, writes)
    if not isinstance(value, tuple) or len(value) != 3:
        return False
    cost, run, tolls = value
    if not is_integer(cost) or not is_paper_run(touches, rooms, run) or not _are_paper_tolls(touches, tolls):
        return False
    return cost == _run_cost(touches, writes, run) == _writes_bound_of(touches, rooms, writes, tolls)
