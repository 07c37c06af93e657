"""Rules, which tell what goes out, their least tables and machines, and their slips."""

from slowshelves.blocks import MOST_BLOCKS, need_rooms, need_web, neighbours
from slowshelves.classes import alike_classes, first_apart
from slowshelves.common import (
    is_below,
    is_integer,
    is_lot,
    is_pair,
    is_sequence,
    is_within,
    linked_rows,
    rows_within,
    shortest_way,
)
from slowshelves.errors import InvalidRule, InvalidSize
from slowshelves.tracks import is_walk_on, need_touches
from slowshelves.turns import (
    FIRST_IN,
    LAST_USED,
    NO_OUT,
    NO_PLACE,
    met_standings,
    rule_turns,
    turns_along,
)

MOST_STATES = 720
MOST_TABLE_BLOCKS = 6


def need_rule(rooms, value):
    """Any value as a rule for so many rooms, the rows of a table ascending."""
    need_rooms(rooms)
    if isinstance(value, str) and value in (LAST_USED, FIRST_IN):
        return value
    if not is_pair(value) or not is_within(value[0], 1, MOST_STATES) or not is_sequence(value[1]):
        raise InvalidRule(-1)
    states, told = value
    rows = {}
    for at, row in enumerate(told):
        if not _is_table_row(rooms, states, row):
            raise InvalidRule(at)
        state, memory, place, block, following, out = row
        if (state, tuple(memory), place, block) in rows:
            raise InvalidRule(at)
        rows[(state, tuple(memory), place, block)] = (following, out)
    return states, tuple(sorted([standing + rows[standing] for standing in rows]))


def _is_table_row(rooms, states, value):
    if not is_sequence(value) or len(value) != 6:
        return False
    state, memory, place, block, following, out = value
    if not is_below(state, states) or not is_below(following, states) or not is_below(block, MOST_BLOCKS):
        return False
    if not is_lot(memory) or len(memory) > rooms or not all([is_below(other, MOST_BLOCKS) for other in memory]):
        return False
    if not is_integer(place) or not is_integer(out) or place == block:
        return False
    if place not in (memory or (NO_PLACE,)):
        return False
    full = block not in memory and len(memory) == rooms
    return out in (memory if full else (NO_OUT,))


def rule_run(rooms, rule, walk):
    """For each touch (moved, out, memory)."""
    rule = need_rule(rooms, rule)
    return turns_along(rule_turns(rooms, rule), need_touches(walk))


def rule_moves(rooms, rule, walk):
    """How many moves the rule makes."""
    return sum([moved for moved, _, _ in rule_run(rooms, rule, walk)])


def _need_small(web):
    """For each block of the web those linked to it, if there are few enough."""
    if web[0] > MOST_TABLE_BLOCKS:
        raise InvalidSize("blocks")
    return linked_rows(web[0], web[1])


def _outs_machine(rows, rooms, rule):
    """(standings, machine): one of each that stand alike, and how they go on.

    The machine has for each of them rows (block, out, next), in the order in which walks lead there.
    """
    standings, steps = met_standings(rows, rule_turns(rooms, rule))
    keys = [
        (memory, place, tuple([out for _, out, _ in row]))
        for (_, memory, place), row in zip(standings, steps)
    ]
    firsts, machine = _least_machine(keys, steps)
    return [standings[first] for first in firsts], machine


def _least_machine(keys, steps):
    """(firsts, machine): the first one of each class, and rows of steps between the classes."""
    classes = alike_classes(keys, [tuple([following for _, _, following in row]) for row in steps])
    firsts = {}
    for at, number in enumerate(classes):
        firsts.setdefault(number, at)
    machine = tuple([
        tuple([(step, mark, classes[following]) for step, mark, following in steps[firsts[number]]])
        for number in firsts
    ])
    return [firsts[number] for number in firsts], machine


def rule_table(web, rooms, rule):
    """The table of the fewest states that puts out the same on all walks of the web."""
    web = need_web(web)
    rule = need_rule(rooms, rule)
    standings, machine = _outs_machine(_need_small(web), rooms, rule)
    many = {}
    states = []
    for _, memory, place in standings:
        many[(memory, place)] = many.get((memory, place), 0) + 1
        states.append(many[(memory, place)] - 1)
    table = [
        (states[at], standings[at][1], standings[at][2], block, states[following], out)
        for at, row in enumerate(machine)
        for block, out, following in row
    ]
    return max(states) + 1, tuple(sorted(table))


def move_machine(web, rooms, rule):
    """The machine of the fewest states that tells at which touches the rule moves."""
    web = need_web(web)
    rule = need_rule(rooms, rule)
    return _moves_machine(_need_small(web), rooms, rule)


def _moves_machine(rows, rooms, rule):
    standings, steps = met_standings(rows, rule_turns(rooms, rule))
    told = [
        tuple([(block, 0 if block in memory else 1, following) for block, _, following in row])
        for (_, memory, _), row in zip(standings, steps)
    ]
    keys = [
        (place, tuple([moved for _, moved, _ in row]))
        for (_, _, place), row in zip(standings, told)
    ]
    return _least_machine(keys, told)[1]


def _two_machines(web, rooms, one, other):
    web = need_web(web)
    one = need_rule(rooms, one)
    other = need_rule(rooms, other)
    rows = _need_small(web)
    return _moves_machine(rows, rooms, one), _moves_machine(rows, rooms, other)


def alike_paper(web, rooms, one, other):
    """The machine of both rules' moves, or the first walk at whose end just one of both moves."""
    machine, other_machine = _two_machines(web, rooms, one, other)
    if machine == other_machine:
        return "alike", machine
    return "walk", first_apart(machine, other_machine)


def alike_holds(web, rooms, one, other, value):
    """Whether any value shows that both rules' moves are alike, or that they are not."""
    machine, other_machine = _two_machines(web, rooms, one, other)
    if not isinstance(value, tuple) or len(value) != 2:
        return False
    kind, told = value
    rows = neighbours(web)
    if kind == "alike":
        return machine == other_machine and _is_machine(told) and _tells_moves(rows, machine, told)
    if kind != "walk" or not is_walk_on(rows, told):
        return False
    return _walk_moves(machine, told) != _walk_moves(other_machine, told)


def _is_machine(value):
    """Whether any value is a tuple of states of rows (block, moved, next)."""
    if not isinstance(value, tuple) or not value:
        return False
    return all([_is_machine_state(len(value), state) for state in value])


def _is_machine_state(many, value):
    if not isinstance(value, tuple):
        return False
    for row in value:
        if not isinstance(row, tuple) or len(row) != 3:
            return False
        if not is_below(row[0], MOST_BLOCKS) or not is_below(row[1], 2) or not is_below(row[2], many):
            return False
    return is_lot([row[0] for row in value])


def _tells_moves(rows, machine, told):
    """Whether the told machine has on all walks the moves of the least one."""
    pairs = [(0, 0)]
    met = {(0, 0): True}
    while pairs:
        state, told_state = pairs.pop()
        steps = {block: (moved, following) for block, moved, following in told[told_state]}
        for block, moved, following in machine[state]:
            if block not in steps or steps[block][0] != moved:
                return False
            pair = (following, steps[block][1])
            if pair not in met:
                met[pair] = True
                pairs.append(pair)
    return True


def _walk_moves(machine, walk):
    """How many moves the machine tells along a walk."""
    moves = 0
    state = 0
    for block in walk:
        moved, state = [row[1:] for row in machine[state] if row[0] == block][0]
        moves += moved
    return moves


def rule_slip(web, rooms, rule):
    """The first walk at whose end the rule puts out another block than "last used", or None."""
    web = need_web(web)
    rule = need_rule(rooms, rule)
    rows = _need_small(web)
    return first_apart(_outs_machine(rows, rooms, rule)[1], _outs_machine(rows, rooms, LAST_USED)[1])


def slip_walk(web, rooms, rule):
    """The slip, and some shortest way back to what the rule put out, or None."""
    walk = rule_slip(web, rooms, rule)
    if walk is None:
        return None
    told = turns_along(rule_turns(rooms, need_rule(rooms, rule)), walk)
    barred = turns_along(rule_turns(rooms, LAST_USED), walk)[-1][1]
    # Ahead of the slip both have one memory; since the last touch of the block that "last used"
    # puts out, the walk went through the others alone.
    kept = [block for block in told[-2][2] if block != barred]
    rows = neighbours(web)
    return walk + shortest_way(rows_within(rows, [walk[-1]] + kept), walk[-1], told[-1][1])[1:]
