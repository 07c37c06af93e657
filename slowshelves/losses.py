"""All standings of a rule and a mate beside it, and what can be gained from each.

A standing is (state, memory, place, mate): that of the rule, and the mate's memory. A step is
(block, lot, moved, mate_moved, number): what is touched, what goes out of the mate's memory,
1 or 0 for a move of the rule and of the mate, and the number of the standing behind.
"""

from slowshelves.errors import InvalidSize
from slowshelves.gaps import memory_behind
from slowshelves.turns import first_standing, next_turn, touchable

MOST_STANDINGS = 20000


def first_beside(turns):
    """The standing ahead of the first touch."""
    return first_standing(turns) + ((),)


def touched_beside(turns, standing, block, lot):
    """(moved, mate_moved, standing behind) when the block is touched and the mate lets go this lot."""
    memory, mate = standing[1], standing[3]
    _, behind = next_turn(turns, standing[:3], block)
    moved = 0 if block in memory else 1
    mate_moved = 0 if block in mate else 1
    return moved, mate_moved, behind + (memory_behind(mate, block, lot),)


def met_beside(rows, rooms, turns):
    """(standings, steps): those that can be met, the first one first, and for each its steps."""
    standings = [first_beside(turns)]
    numbers = {standings[0]: 0}
    steps = []
    while len(steps) < len(standings):
        standing = standings[len(steps)]
        row = []
        for block in touchable(rows, standing[2]):
            for lot in _mate_lots(standing[3], rooms, block):
                moved, mate_moved, behind = touched_beside(turns, standing, block, lot)
                if behind not in numbers:
                    numbers[behind] = len(standings)
                    standings.append(behind)
                row.append((block, lot, moved, mate_moved, numbers[behind]))
        if len(standings) > MOST_STANDINGS:
            raise InvalidSize("standings")
        steps.append(tuple(row))
    return standings, steps


def _mate_lots(mate, rooms, block):
    """What may go out of the mate's memory when the block is touched."""
    if block in mate or len(mate) < rooms:
        return [()]
    return [(out,) for out in mate]


def gained_by(weights, step):
    """What a step gains: so much for a move of the rule, less so much for one of the mate."""
    return weights[0] * step[2] - weights[1] * step[3]


def greatest_gains(steps, weights):
    """(gains, choices, ring): for each standing the greatest gains still to come, and a step that leads to them.

    The ring is () or, if going round gains without end, the steps of some ring that does.
    """
    gains = [0] * len(steps)
    choices = [None] * len(steps)
    ahead = _numbers_ahead(steps)
    waiting = list(range(len(steps)))[::-1]
    ring = ()
    while waiting and not ring:
        raised = []
        for number in waiting:
            if _raise_gain(steps[number], weights, gains, choices, number):
                raised.append(number)
        # Each choice was more than was known, so choices lead round a ring only if it gains.
        ring = _choice_ring(choices)
        waiting = sorted(set([other for number in raised for other in ahead[number]]))[::-1]
    return gains, choices, ring


def _numbers_ahead(steps):
    """For each standing the numbers of those that a step leads from to it."""
    ahead = [[] for _ in steps]
    for number, row in enumerate(steps):
        for step in row:
            ahead[step[4]].append(number)
    return ahead


def _raise_gain(row, weights, gains, choices, number):
    """Whether the steps of this standing lead to more than was known of it; then it is known."""
    best = None
    most = gains[number]
    for step in row:
        gain = gained_by(weights, step) + gains[step[4]]
        if gain > most:
            best = step
            most = gain
    if best is None:
        return False
    gains[number] = most
    choices[number] = best
    return True


def _choice_ring(choices):
    """The steps of some ring round which the choices lead, or ()."""
    looked = {}
    for first in range(len(choices)):
        number = first
        while number not in looked and choices[number] is not None:
            looked[number] = first
            number = choices[number][4]
        if looked.get(number, -1) == first:
            return _ring_of(choices, number)
    return ()


def _ring_of(choices, first):
    """The steps of the ring round which the choices lead from this standing."""
    ring = [choices[first]]
    while ring[-1][4] != first:
        ring.append(choices[ring[-1][4]])
    return tuple(ring)


def steps_to(steps, last):
    """The steps of some shortest way from the first standing, 0, to this one."""
    ahead = {0: None}
    waiting = [0]
    at = 0
    while last not in ahead:
        number = waiting[at]
        at += 1
        for step in steps[number]:
            if step[4] not in ahead:
                ahead[step[4]] = (number, step)
                waiting.append(step[4])
    row = []
    while ahead[last] is not None:
        last, step = ahead[last]
        row.append(step)
    return tuple(row[::-1])


def chosen_steps(choices):
    """The steps to which the choices lead from the first standing on, where they lead round no ring."""
    row = []
    number = 0
    while choices[number] is not None:
        row.append(choices[number])
        number = row[-1][4]
    return tuple(row)
