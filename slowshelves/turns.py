"""How a rule goes on, touch by touch, and all standings that walks of a web lead it to.

A standing is (state, memory, place). Of a rule that is a word the state is the blocks of
the memory in the order in which they go out.
"""

LAST_USED = "last used"
FIRST_IN = "first in"
NO_PLACE = -1
NO_OUT = -1


def rule_turns(rooms, rule):
    """What is needed to go on by the rule, which is one: (rooms, word, rows), one of both empty."""
    if rule in (LAST_USED, FIRST_IN):
        return rooms, rule, {}
    rows = {}
    for state, memory, place, block, following, out in rule[1]:
        rows[(state, memory, place, block)] = (following, out)
    return rooms, "", rows


def first_standing(turns):
    """The standing ahead of the first touch."""
    return () if turns[1] else 0, (), NO_PLACE


def next_turn(turns, standing, block):
    """(out, standing): what goes out when the block is touched, or -1, and what is behind it."""
    rooms, word, rows = turns
    state, memory, place = standing
    full = block not in memory and len(memory) == rooms
    if word:
        out = state[0] if full else NO_OUT
        following = _order_behind(word, state, block, out)
    else:
        least = memory[0] if full else NO_OUT
        following, out = rows.get((state, memory, place, block), (state, least))
    if block not in memory:
        memory = tuple(sorted([other for other in memory if other != out] + [block]))
    return out, (following, memory, block)


def _order_behind(word, order, block, out):
    """The blocks in the order in which they go out, when this one was touched."""
    if word == FIRST_IN and block in order:
        return order
    return tuple([other for other in order if other not in (block, out)] + [block])


def turns_along(turns, walk):
    """For each touch of the walk (moved, out, memory)."""
    standing = first_standing(turns)
    told = []
    for block in walk:
        moved = 0 if block in standing[1] else 1
        out, standing = next_turn(turns, standing, block)
        told.append((moved, out, standing[1]))
    return tuple(told)


def touchable(rows, place):
    """The blocks that can be touched behind a place, ascending; at first any one."""
    return tuple(range(len(rows))) if place == NO_PLACE else rows[place]


def met_standings(rows, turns):
    """(standings, steps): those that walks lead to, in the order in which they first do.

    steps tells for each standing rows (block, out, number of the next standing).
    """
    standings = [first_standing(turns)]
    numbers = {standings[0]: 0}
    steps = []
    while len(steps) < len(standings):
        standing = standings[len(steps)]
        row = []
        for block in touchable(rows, standing[2]):
            out, behind = next_turn(turns, standing, block)
            if behind not in numbers:
                numbers[behind] = len(standings)
                standings.append(behind)
            row.append((block, out, numbers[behind]))
        steps.append(tuple(row))
    return standings, steps
