"""Walkers that gain moves on whoever answers, without end, and walks that beat told rules."""

from slowshelves.blocks import need_rooms, need_web, neighbours
from slowshelves.calm import is_calm
from slowshelves.chases import aside_block, gaining_row, tour_of
from slowshelves.common import is_integer, need_size, rows_within, shortest_way
from slowshelves.errors import InvalidOut, Refused
from slowshelves.gaps import is_paper_run, memory_behind, staying_gaps
from slowshelves.rules import need_rule
from slowshelves.tracks import is_walk_on
from slowshelves.turns import NO_OUT, first_standing, next_turn, rule_turns, turns_along

MOST_BEHIND = 9


class Walker:
    """Walks a web that is not calm against whoever answers, beside a mate who moves less.

    Again and again both hold one lot of blocks that hang together; then the walk leaves it.
    """

    def __init__(self, web, rooms):
        self.web = need_web(web)
        self.rooms = need_rooms(rooms)
        if is_calm(web, rooms):
            raise Refused(-1)
        self.walk = ()
        self.memory = ()
        self.moves = 0
        self.gained = 0
        self._is_fork, self._row = gaining_row(neighbours(web), rooms)
        self._rows = rows_within(neighbours(web), self._row)
        self._plan = tour_of(self._rows, self._row[:rooms])
        self._mate = ()
        self._outs = ()
        # On a ring the mate's lot is a stretch: where in the row it begins, and the moments
        # since the round began at which both moved.
        self._first = 0
        self._round = ()

    def next_block(self):
        """The block that is touched next."""
        return self._plan[0]

    def touched(self, out):
        """Touches the next block; out is the block that goes out, None if none has to."""
        block = self._plan[0]
        self._need_out(block, out)
        lot = ()
        if block not in self._mate and len(self._mate) == self.rooms:
            lot = (self._mate_out(block, out),)
        if block not in self.memory:
            self.moves += 1
            self.gained += 1 if block in self._mate else 0
        self.memory = memory_behind(self.memory, block, () if out is None else (out,))
        self._mate = memory_behind(self._mate, block, lot)
        self._outs = self._outs + (lot,)
        self.walk = self.walk + (block,)
        self._plan = self._plan[1:]
        if not self._plan:
            self._plan = self._next_plan()

    def _need_out(self, block, out):
        full = block not in self.memory and len(self.memory) == self.rooms
        if full and (not is_integer(out) or out not in self.memory):
            raise InvalidOut(-1)
        if not full and out is not None:
            raise InvalidOut(-1)

    def _mate_out(self, block, out):
        """What goes out of the mate's memory where both move."""
        if self._is_fork:
            return aside_block(self._rows, self._row, block, out)
        # As long as the answers are so, too, nothing tells whether the mate kept another one.
        self._first += 1
        self._round = self._round + (len(self.walk),)
        return self._ring_block(self._first - 1)

    def _ring_block(self, place):
        return self._row[place % len(self._row)]

    def _next_plan(self):
        """The blocks to go to from here."""
        if not self._lacking() and len(self._round) == len(self._row) - self.rooms:
            self._close_round()
        lacking = self._lacking()
        if lacking:
            self._round = ()
            return self._way_to(self._mate, lacking[0])
        if self._is_fork:
            ahead = [block for block in self._row if block not in self._mate][0]
        else:
            ahead = self._ring_block(self._first + self.rooms)
        return self._way_to(self._mate + (ahead,), ahead)

    def _lacking(self):
        """The mate's blocks that are not in memory: going there the rule alone moves."""
        return [block for block in self._mate if block not in self.memory]

    def _way_to(self, lot, block):
        return shortest_way(rows_within(self._rows, lot), self.walk[-1], block)[1:]

    def _close_round(self):
        """The ring is gone round: the mate has kept the block where the round began."""
        begin = self._first - len(self._round)
        outs = list(self._outs)
        for at, moment in enumerate(self._round):
            outs[moment] = (self._ring_block(begin + 1 + at),)
        self._outs = tuple(outs)
        self._first += 1
        self._mate = tuple(sorted([self._ring_block(self._first + at) for at in range(self.rooms)]))

    def mate_run(self):
        """Some run of the walk with so many fewer moves as were gained."""
        return self._outs


def beaten_walk(web, rooms, rule, behind):
    """Some (walk, run) such that the rule makes just so many moves more than the run."""
    web = need_web(web)
    rule = need_rule(rooms, rule)
    need_size(behind, 1, MOST_BEHIND, "behind")
    walker = Walker(web, rooms)
    turns = rule_turns(rooms, rule)
    standing = first_standing(turns)
    while walker.gained < behind:
        out, standing = next_turn(turns, standing, walker.next_block())
        walker.touched(None if out == NO_OUT else out)
    return walker.walk, walker.mate_run()


def beaten_holds(web, rooms, rule, behind, value):
    """Whether any value is a walk and a run of it such that the rule makes at least so many moves more."""
    web = need_web(web)
    rule = need_rule(rooms, rule)
    need_size(behind, 1, MOST_BEHIND, "behind")
    if is_calm(web, rooms):
        raise Refused(-1)
    if not isinstance(value, tuple) or len(value) != 2 or not is_walk_on(neighbours(web), value[0]):
        return False
    walk, run = value
    if not is_paper_run(walk, (rooms,) * len(walk), run):
        return False
    moves = sum([moved for moved, _, _ in turns_along(rule_turns(rooms, rule), walk)])
    return moves - (len(walk) - len(staying_gaps(walk, run))) >= behind
