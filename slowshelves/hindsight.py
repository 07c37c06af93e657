"""Hindsight, which knows all touches: its runs, its prices, and which gaps it has to keep."""

from slowshelves.common import first_no_new_number, is_integer, is_lot_of, is_pair, is_sequence
from slowshelves.errors import InvalidGaps, InvalidPrices
from slowshelves.gaps import (
    is_kept_lot,
    memory_behind,
    moves_of,
    need_many_rooms,
    need_run,
    staying_gaps,
    touch_gaps,
)
from slowshelves.tracks import need_touches


def run_memories(touches, rooms, run):
    """For each moment the memory behind it."""
    touches, run = _need_touches_and_run(touches, rooms, run)
    memories = [()]
    for block, lot in zip(touches, run):
        memories.append(memory_behind(memories[-1], block, lot))
    return tuple(memories[1:])


def run_moves(touches, rooms, run):
    """The moments at which the touched block is not in the memory ahead, ascending."""
    touches, run = _need_touches_and_run(touches, rooms, run)
    return _moments_of_moves(touches, staying_gaps(touches, run))


def _need_touches_and_run(touches, rooms, run):
    touches = need_touches(touches)
    return touches, need_run(touches, need_many_rooms(touches, rooms), run)


def _moments_of_moves(touches, gaps):
    """The moments that end none of these gaps."""
    ends = {last: True for _, last in gaps}
    return tuple([moment for moment in range(len(touches)) if moment not in ends])


def far_run(touches, rooms):
    """The run in which those go out that are touched again latest."""
    touches = need_touches(touches)
    return farthest_run(touches, need_many_rooms(touches, rooms))


def farthest_run(touches, rooms):
    """As far_run, of touches that are some, however many, with rooms for each moment."""
    following = _next_moments(touches)
    comes = {}
    run = []
    for at, block in enumerate(touches):
        others = sorted([(comes[other], other) for other in comes if other != block], reverse=True)
        lot = sorted([other for _, other in others[:max(len(others) + 1 - rooms[at], 0)]])
        for other in lot:
            del comes[other]
        comes[block] = following[at]
        run.append(tuple(lot))
    return tuple(run)


def _next_moments(touches):
    """For each moment the next one with its block, or, behind all others, how many moments there are."""
    coming = {}
    following = []
    for at in reversed(range(len(touches))):
        following.append(coming.get(touches[at], len(touches)))
        coming[touches[at]] = at
    return following[::-1]


def least_moves(touches, rooms):
    """The fewest moves of any run."""
    touches = need_touches(touches)
    return fewest_moves(touches, need_many_rooms(touches, rooms))


def fewest_moves(touches, rooms):
    """As least_moves, of touches that are some, however many, with rooms for each moment."""
    return moves_of(touches, farthest_run(touches, rooms))


def price_bound(touches, rooms, prices):
    """What no run moves less than, by these prices."""
    touches = need_touches(touches)
    rooms = need_many_rooms(touches, rooms)
    prices = need_prices(touches, prices)
    return len(touches) - _priced(_spaces(rooms), touch_gaps(touches), prices)


def need_prices(touches, value):
    """Any value as prices: unlike moments of the touches, which are some."""
    if not is_sequence(value):
        raise InvalidPrices(-1)
    at = first_no_new_number(value, len(touches))
    if at is not None:
        raise InvalidPrices(at)
    return tuple(value)


def _spaces(rooms):
    """For each moment how many gaps may go over it."""
    return [many - 1 for many in rooms]


def _priced(spaces, gaps, prices):
    """What no kept lot of these gaps is more than: the spaces at the prices, and the gaps over none."""
    free = [gap for gap in gaps if not _goes_over_any(gap, prices)]
    return sum([spaces[price] for price in prices]) + len(free)


def _goes_over_any(gap, moments):
    return any([gap[0] < moment < gap[1] for moment in moments])


def hindsight_paper(touches, rooms):
    """Some (moves, gaps, prices): kept gaps, and prices that show that no run moves less."""
    touches = need_touches(touches)
    spaces = _spaces(need_many_rooms(touches, rooms))
    gaps, prices = _best_lot(touch_gaps(touches), spaces)
    return len(touches) - len(gaps), gaps, prices


def _best_lot(gaps, spaces):
    """(lot, prices): some of the most of these gaps that fit together, and prices that show it."""
    over = []
    drops = []
    for moment, space in enumerate(spaces):
        over = [gap for gap in over if gap[1] > moment] + [gap for gap in gaps if gap[0] == moment - 1]
        while len(over) > space:
            drops.append((moment, max(over, key=lambda gap: gap[1])))
            over.remove(drops[-1][1])
    dropped = {gap: True for _, gap in drops}
    prices = []
    for moment, gap in reversed(drops):
        if not _goes_over_any(gap, prices):
            prices.append(moment)
    return tuple([gap for gap in gaps if gap not in dropped]), tuple(prices[::-1])


def hindsight_holds(touches, rooms, value):
    """Whether any value is such a triple."""
    touches = need_touches(touches)
    rooms = need_many_rooms(touches, rooms)
    if not isinstance(value, tuple) or len(value) != 3:
        return False
    moves, gaps, prices = value
    if not is_integer(moves) or not is_kept_lot(touches, rooms, gaps) or not _is_price_lot(touches, prices):
        return False
    bound = len(touches) - _priced(_spaces(rooms), touch_gaps(touches), prices)
    return moves == len(touches) - len(gaps) == bound


def _is_price_lot(touches, value):
    """Whether any value is prices as a lot, in a tuple."""
    return isinstance(value, tuple) and is_lot_of(value, list(range(len(touches))))


def beginning_moves(touches, rooms):
    """For each moment the fewest moves of the touches up to it."""
    touches = need_touches(touches)
    spaces = _spaces(need_many_rooms(touches, rooms))
    ends = _fitting_ends(touch_gaps(touches), spaces)
    moves = 0
    row = []
    for moment in range(len(touches)):
        moves += 0 if moment in ends else 1
        row.append(moves)
    return tuple(row)


def _fitting_ends(gaps, spaces):
    """The ends of the gaps taken in the order of their ends, each one kept if it still fits."""
    left = list(spaces)
    ends = {}
    for first, last in sorted(gaps, key=lambda gap: gap[1]):
        if all([left[moment] > 0 for moment in range(first + 1, last)]):
            ends[last] = True
            for moment in range(first + 1, last):
                left[moment] -= 1
    return ends


def _ends_with_rooms(touches):
    """For 1, 2, .. rooms, up to as many as there are unlike blocks, the ends of the most kept gaps."""
    gaps = touch_gaps(touches)
    return [_fitting_ends(gaps, [many] * len(touches)) for many in range(len(set(touches)))]


def touch_depths(touches):
    """For each touch the least number of rooms with which it is no move of hindsight; None of a new block."""
    touches = need_touches(touches)
    depths = [None] * len(touches)
    for at, ends in enumerate(_ends_with_rooms(touches)):
        for moment in ends:
            if depths[moment] is None:
                depths[moment] = at + 1
    return tuple(depths)


def rooms_moves(touches):
    """The fewest moves with 1, 2, .. rooms, up to as many as there are unlike blocks."""
    touches = need_touches(touches)
    return tuple([len(touches) - len(ends) for ends in _ends_with_rooms(touches)])


def gap_kinds(touches, rooms):
    """For each gap whether it is in all best lots, in some or in none."""
    touches = need_touches(touches)
    spaces = _spaces(need_many_rooms(touches, rooms))
    gaps = touch_gaps(touches)
    most = len(_fitting_ends(gaps, spaces))
    return tuple([_gap_kind(_others(gaps, gap), spaces, gap, most) for gap in gaps])


def _others(gaps, gap):
    return [other for other in gaps if other != gap]


def _gap_kind(others, spaces, gap, most):
    if len(_fitting_ends(others, spaces)) < most:
        return "all"
    if _first_full(spaces, gap) is None and len(_fitting_ends(others, _spaces_under(spaces, gap))) + 1 == most:
        return "some"
    return "none"


def _first_full(spaces, gap):
    """The first moment with one room that the gap goes over, or None."""
    full = [moment for moment in range(gap[0] + 1, gap[1]) if spaces[moment] == 0]
    return full[0] if full else None


def _spaces_under(spaces, gap):
    """The spaces that are left when the gap is kept."""
    return [space - 1 if gap[0] < moment < gap[1] else space for moment, space in enumerate(spaces)]


def _need_gap(gaps, value):
    if not is_pair(value) or not is_integer(value[0]) or not is_integer(value[1]):
        raise InvalidGaps(-1)
    if (value[0], value[1]) not in gaps:
        raise InvalidGaps(-1)
    return value[0], value[1]


def kind_paper(touches, rooms, gap):
    """Some paper that shows of which kind the gap is."""
    touches = need_touches(touches)
    spaces = _spaces(need_many_rooms(touches, rooms))
    gaps = touch_gaps(touches)
    gap = _need_gap(gaps, gap)
    others = _others(gaps, gap)
    best, _ = _best_lot(gaps, spaces)
    without, prices = _best_lot(others, spaces)
    if len(without) < len(best):
        return "all", best, prices
    full = _first_full(spaces, gap)
    if full is not None:
        return "full", full
    beside, prices = _best_lot(others, _spaces_under(spaces, gap))
    if len(beside) + 1 == len(best):
        return "some", tuple(sorted(beside + (gap,))), without
    return "none", best, prices


def kind_holds(touches, rooms, gap, value):
    """Whether any value is such a paper."""
    touches = need_touches(touches)
    rooms = need_many_rooms(touches, rooms)
    gaps = touch_gaps(touches)
    gap = _need_gap(gaps, gap)
    spaces = _spaces(rooms)
    if not isinstance(value, tuple) or len(value) not in (2, 3):
        return False
    if value[0] == "full" and len(value) == 2:
        return is_integer(value[1]) and gap[0] < value[1] < gap[1] and spaces[value[1]] == 0
    if len(value) == 2 or not is_kept_lot(touches, rooms, value[1]):
        return False
    kind, lot, told = value
    if len(lot) != len(_fitting_ends(gaps, spaces)):
        return False
    if kind == "some":
        return gap in lot and is_kept_lot(touches, rooms, told) and len(told) == len(lot) and gap not in told
    if not _is_price_lot(touches, told):
        return False
    others = _others(gaps, gap)
    if kind == "all":
        return _priced(spaces, others, told) == len(lot) - 1
    if kind != "none" or _first_full(spaces, gap) is not None:
        return False
    return _priced(_spaces_under(spaces, gap), others, told) <= len(lot) - 2
