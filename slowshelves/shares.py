"""Shares of moves that rules keep and walkers force, and their papers."""

from itertools import combinations
from math import comb, gcd

from slowshelves.blocks import layout_beside, need_rooms, need_web, neighbours
from slowshelves.common import hanging_parts, is_integer, is_sequence, is_within
from slowshelves.errors import InvalidAnswers, InvalidIndex, InvalidPaper, InvalidSize, Refused
from slowshelves.shelves import linked_cells, need_shelf
from slowshelves.tracks import need_way

MOST_STATES = 5000
MOST_STEPS = 100
MOST_SHARE_BLOCKS = 6


def _need_states(shelf, layout, rooms):
    """(states, steps): of a shelf that hangs together, if there are few enough."""
    shelf = need_shelf(shelf)
    layout = layout_beside(shelf, layout)
    need_rooms(rooms)
    rows = _hanging_rows(shelf)
    _need_few_states(layout, rooms)
    states = _all_states(layout, rooms)
    return states, _state_steps(rows, layout, rooms, states)


def _hanging_rows(shelf):
    """For each cell those linked to it, if there are two or more and all hang together."""
    rows = linked_cells(shelf)
    if len(rows) < 2 or len(hanging_parts(rows)) > 1:
        raise Refused(-1)
    return rows


def _need_few_states(layout, rooms):
    others = max(layout)
    if len(layout) * sum([comb(others, many) for many in range(rooms)]) > MOST_STATES:
        raise InvalidSize("states")


def _all_states(layout, rooms):
    """All (memory, cell), ascending."""
    many = max(layout) + 1
    lots = [lot for size in range(1, rooms + 1) for lot in combinations(range(many), size)]
    return tuple([
        (lot, cell)
        for lot in sorted(lots)
        for cell, block in enumerate(layout)
        if block in lot
    ])


def _state_steps(rows, layout, rooms, states):
    """For each state its steps (cell, price, behind): behind are the states of all answers.

    They are in the order of the blocks that go out, ascending.
    """
    numbers = {state: at for at, state in enumerate(states)}
    steps = []
    for memory, cell in states:
        row = []
        for other in rows[cell]:
            memories = _memories_behind(memory, layout[other], rooms)
            price = 0 if layout[other] in memory else 1
            row.append((other, price, tuple([numbers[(lot, other)] for lot in memories])))
        steps.append(tuple(row))
    return steps


def _memories_behind(memory, block, rooms):
    """The memory behind a touch of this block, once for each block that may go out."""
    if block in memory:
        return [memory]
    if len(memory) < rooms:
        return [tuple(sorted(memory + (block,)))]
    return [tuple(sorted([other for other in memory if other != out] + [block])) for out in memory]


def share_states(shelf, layout, rooms):
    """All states, ascending."""
    return _need_states(shelf, layout, rooms)[0]


def forced_row(shelf, layout, rooms, steps):
    """For each state how many moves can be forced in so many steps."""
    states, told = _need_states(shelf, layout, rooms)
    if not is_within(steps, 0, MOST_STEPS):
        raise InvalidIndex(-1)
    row = [0] * len(states)
    for _ in range(steps):
        row = _row_behind(told, row)
    return tuple(row)


def _row_behind(steps, row):
    """What can be forced in one step more than the row tells."""
    return [
        max([price + min([row[state] for state in behind]) for _, price, behind in options])
        for options in steps
    ]


def share_paper(shelf, layout, rooms):
    """Some (moves, steps, low, high): the least share, and the heights that show it."""
    return _paper_of(_need_states(shelf, layout, rooms)[1])


def _paper_of(told):
    rows, first = _rows_to_repeat(told)
    gained = min(rows[-1]) - min(rows[first])
    turns = len(rows) - 1 - first
    moves, steps = gained // gcd(gained, turns), turns // gcd(gained, turns)
    # Of the rows that come again and again, less what each step is worth, the least numbers
    # are kept by the rule and the greatest ones forced.
    heights = [
        [steps * forced - moves * turn for forced in rows[first + turn]]
        for turn in range(turns)
    ]
    low = tuple([min(column) for column in zip(*heights)])
    return moves, steps, low, tuple([max(column) for column in zip(*heights)])


def _rows_to_repeat(told):
    """(rows, first): what can be forced in 0, 1, .. steps, up to the row that is the first one raised."""
    rows = [[0] * len(told)]
    met = {tuple(rows[0]): 0}
    while True:
        row = _row_behind(told, rows[-1])
        rows.append(row)
        least = min(row)
        sign = tuple([forced - least for forced in row])
        if sign in met:
            return rows, met[sign]
        met[sign] = len(rows) - 1


def least_share(shelf, layout, rooms):
    """(moves, steps) of the least share."""
    return share_paper(shelf, layout, rooms)[:2]


def share_holds(shelf, layout, rooms, value):
    """Whether any value is such a paper."""
    return _paper_holds(_need_states(shelf, layout, rooms)[1], value)


def _paper_holds(told, value):
    if not isinstance(value, tuple) or len(value) != 4:
        return False
    moves, steps, low, high = value
    if not is_integer(moves) or not is_integer(steps) or moves < 0 or steps < 1 or gcd(moves, steps) != 1:
        return False
    if not _are_heights(len(told), low) or not _are_heights(len(told), high):
        return False
    for at, options in enumerate(told):
        kept = max([steps * price - moves + min([low[state] for state in behind]) for _, price, behind in options])
        forced = max([steps * price - moves + min([high[state] for state in behind]) for _, price, behind in options])
        if kept > low[at] or forced < high[at]:
            return False
    return True


def _are_heights(many, value):
    return isinstance(value, tuple) and len(value) == many and all([is_integer(height) for height in value])


def _need_paper(shelf, layout, rooms, paper):
    states, told = _need_states(shelf, layout, rooms)
    if not _paper_holds(told, paper):
        raise InvalidPaper(-1)
    return states, told


def _first_state(states, layout, cell):
    """The number of the state with the block of the cell alone in memory."""
    return states.index(((layout[cell],), cell))


def share_run(shelf, layout, rooms, paper, way):
    """Some memories along the way that keep the share of the paper."""
    states, told = _need_paper(shelf, layout, rooms, paper)
    way = need_way(shelf, way)
    low = paper[2]
    run = [_first_state(states, layout_beside(shelf, layout), way[0])]
    for cell in way[1:]:
        behind = [states_behind for other, _, states_behind in told[run[-1]] if other == cell][0]
        run.append(min(behind, key=lambda state: low[state]))
    return tuple([states[state][0] for state in run])


def forced_play(shelf, layout, rooms, paper, answers):
    """Some (way, memories) that force the share of the paper against these answers."""
    states, told = _need_paper(shelf, layout, rooms, paper)
    if not is_sequence(answers):
        raise InvalidAnswers(-1)
    for at, answer in enumerate(answers):
        if not is_integer(answer) or answer < 0:
            raise InvalidAnswers(at)
    play = [_first_state(states, layout_beside(shelf, layout), 0)]
    for answer in answers:
        behind = _forcing_step(told[play[-1]], paper)
        # Where there is no choice all answers are the same.
        play.append(behind[answer % rooms if len(behind) == rooms else 0])
    return tuple([states[state][1] for state in play]), tuple([states[state][0] for state in play])


def _forcing_step(options, paper):
    """The states behind the step that forces most."""
    steps, high = paper[1], paper[3]
    best = options[0]
    for option in options:
        if _forced_by(steps, high, option) > _forced_by(steps, high, best):
            best = option
    return best[2]


def _forced_by(steps, high, option):
    _, price, behind = option
    return steps * price + min([high[state] for state in behind])


def room_shares(shelf, layout):
    """The least shares for 1, 2, .. rooms, up to one room less than there are blocks."""
    shelf = need_shelf(shelf)
    layout = layout_beside(shelf, layout)
    rows = _hanging_rows(shelf)
    many = max(layout) + 1
    if many > MOST_SHARE_BLOCKS:
        raise InvalidSize("blocks")
    for rooms in range(1, many):
        _need_few_states(layout, rooms)
    shares = []
    for rooms in range(1, many):
        told = _state_steps(rows, layout, rooms, _all_states(layout, rooms))
        shares.append(_paper_of(told)[:2])
    return tuple(shares)


def core_blocks(web, rooms):
    """The greatest lot of blocks each of which is linked to so many of the lot."""
    need_web(web)
    need_rooms(rooms)
    rows = neighbours(web)
    lot = list(range(len(rows)))
    left = []
    while left != lot:
        left = lot
        lot = [block for block in left if len([other for other in rows[block] if other in left]) >= rooms]
    return tuple(lot)
