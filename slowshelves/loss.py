"""How far a told rule can fall behind hindsight over all walks, as a number and as a quotient."""

from math import gcd

from slowshelves.blocks import MOST_ROOMS, need_rooms, need_web, neighbours
from slowshelves.common import is_exactly, is_integer
from slowshelves.errors import InvalidRule
from slowshelves.gaps import is_paper_run
from slowshelves.hindsight import fewest_moves
from slowshelves.losses import (
    chosen_steps,
    first_beside,
    gained_by,
    greatest_gains,
    met_beside,
    steps_to,
    touched_beside,
)
from slowshelves.rules import need_rule
from slowshelves.tracks import is_long_walk_on, need_walk
from slowshelves.turns import FIRST_IN, LAST_USED, rule_turns, turns_along

# A move of the rule is a gain, and one of the mate takes it back.
LOSS = (1, 1)


def _need_rule_beside(web, rooms, own, rule):
    """(rows, turns): what is linked to each block, and what is needed to go on by the rule."""
    web = need_web(web)
    need_rooms(rooms)
    need_rooms(own)
    return neighbours(web), rule_turns(own, need_rule(own, rule))


def walk_loss(web, rooms, own, rule, walk):
    """The rule's moves on the walk less those of hindsight."""
    _, turns = _need_rule_beside(web, rooms, own, rule)
    return _loss_along(rooms, turns, need_walk(web, walk))


def _loss_along(rooms, turns, walk):
    moves = sum([moved for moved, _, _ in turns_along(turns, walk)])
    return moves - fewest_moves(walk, (rooms,) * len(walk))


def loss_paper(web, rooms, own, rule):
    """Some paper that shows the greatest loss over all walks, or that there is none."""
    rows, turns = _need_rule_beside(web, rooms, own, rule)
    standings, steps = met_beside(rows, rooms, turns)
    gains, choices, ring = greatest_gains(steps, LOSS)
    if ring:
        told = _told_ring(steps, ring)
        return ("endless", *told)
    way = chosen_steps(choices) or steps[0][:1]
    return "most", gains[0], _told_heights(standings, gains), _blocks_of(way)


def _blocks_of(row):
    return tuple([step[0] for step in row])


def _told_ring(steps, ring):
    """(lead, ring, run): the touches to the ring and round it, and what goes out of the mate's memory."""
    lead = steps_to(steps, ring[-1][4])
    return _blocks_of(lead), _blocks_of(ring), tuple([step[1] for step in lead + ring])


def _told_heights(standings, gains):
    return tuple(sorted(list(zip(standings, gains))))


def loss_holds(web, rooms, own, rule, value):
    """Whether any value is such a paper."""
    rows, turns = _need_rule_beside(web, rooms, own, rule)
    standings, steps = met_beside(rows, rooms, turns)
    if not isinstance(value, tuple) or len(value) != 4:
        return False
    if value[0] == "endless":
        moves = _moves_on_ring(rows, rooms, turns, value[1:])
        return moves is not None and moves[0] > moves[1]
    kind, number, told, walk = value
    heights = _paper_heights(standings, told)
    if kind != "most" or heights is None or not is_exactly(number, heights[0]):
        return False
    if not _are_high(steps, LOSS, heights) or not is_long_walk_on(rows, walk):
        return False
    return _loss_along(rooms, turns, walk) == number


def _paper_heights(standings, value):
    """For each standing the height that any value tells, if it tells one for each of them; else None."""
    if not isinstance(value, tuple) or len(value) != len(standings):
        return None
    heights = {}
    for pair, standing in zip(value, sorted(standings)):
        if not isinstance(pair, tuple) or len(pair) != 2 or not is_exactly(pair[0], standing):
            return None
        if not is_integer(pair[1]) or pair[1] < 0:
            return None
        heights[standing] = pair[1]
    return [heights[standing] for standing in standings]


def _are_high(steps, weights, heights):
    """Whether at each step the height is at least the gain and the next one's height together."""
    for height, row in zip(heights, steps):
        if any([height < gained_by(weights, step) + heights[step[4]] for step in row]):
            return False
    return True


def _moves_on_ring(rows, rooms, turns, told):
    """(moves of the rule, of the mate) on the ring that any three values tell, or None if they tell none."""
    lead, ring, run = told
    if not isinstance(lead, tuple) or not isinstance(ring, tuple) or not lead or not ring:
        return None
    walk = lead + ring
    if not is_long_walk_on(rows, walk) or not is_paper_run(walk, (rooms,) * len(walk), run):
        return None
    standing = first_beside(turns)
    begin = None
    moves = mate_moves = 0
    for at, block in enumerate(walk):
        if at == len(lead):
            begin = standing
            moves = mate_moves = 0
        moved, mate_moved, standing = touched_beside(turns, standing, block, run[at])
        moves += moved
        mate_moves += mate_moved
    return (moves, mate_moves) if standing == begin else None


def greatest_loss(web, rooms, own, rule):
    """The greatest loss over all walks, or None if there is none."""
    paper = loss_paper(web, rooms, own, rule)
    return paper[1] if paper[0] == "most" else None


def quotient_paper(web, rooms, own, rule):
    """Some paper that shows the least quotient of the rule's moves and those of hindsight, or that there is none."""
    rows, turns = _need_rule_beside(web, rooms, own, rule)
    standings, steps = met_beside(rows, rooms, turns)
    quotient = (0, 1)
    told = ((), (), ())
    gains, _, ring = greatest_gains(steps, (1, 0))
    # Each ring that gains against the quotient of the one ahead has a greater one.
    while ring:
        told = _told_ring(steps, ring)
        moves = sum([step[2] for step in ring])
        mate_moves = sum([step[3] for step in ring])
        if mate_moves == 0:
            return ("endless", *told)
        divisor = gcd(moves, mate_moves)
        quotient = (moves // divisor, mate_moves // divisor)
        gains, _, ring = greatest_gains(steps, (quotient[1], quotient[0]))
    return ("quotient", *quotient, _told_heights(standings, gains), *told)


def quotient_holds(web, rooms, own, rule, value):
    """Whether any value is such a paper."""
    rows, turns = _need_rule_beside(web, rooms, own, rule)
    standings, steps = met_beside(rows, rooms, turns)
    if not isinstance(value, tuple) or len(value) not in (4, 7):
        return False
    if len(value) == 4:
        moves = _moves_on_ring(rows, rooms, turns, value[1:])
        return value[0] == "endless" and moves is not None and moves[0] > 0 and moves[1] == 0
    kind, above, below, told, *ring = value
    heights = _paper_heights(standings, told)
    if kind != "quotient" or heights is None or not _are_lowest_terms(above, below):
        return False
    if not _are_high(steps, (below, above), heights):
        return False
    if above == 0:
        return ring == [(), (), ()]
    moves = _moves_on_ring(rows, rooms, turns, ring)
    return moves is not None and moves[0] > 0 and moves[0] * below == moves[1] * above


def _are_lowest_terms(above, below):
    """Whether any two values are numbers without a common divisor but 1, the second one not 0."""
    if not is_integer(above) or not is_integer(below):
        return False
    return above >= 0 and below >= 1 and gcd(above, below) == 1


def losses_row(web, rooms, word):
    """The greatest losses of a word with as many rooms as hindsight and more, up to the first 0."""
    need_web(web)
    need_rooms(rooms)
    if not isinstance(word, str) or word not in (LAST_USED, FIRST_IN):
        raise InvalidRule(-1)
    row = []
    for own in range(rooms, MOST_ROOMS + 1):
        if 0 not in row:
            row.append(greatest_loss(web, rooms, own, word))
    return tuple(row)
