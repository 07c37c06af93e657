"""Walkers that gain moves on whoever answers, without end, and walks that beat told rules."""

from slowshelves.blocks import need_rooms, need_web, neighbours
from slowshelves.calm import is_calm
from slowshelves.chases import Chase, aside_block, gaining_row, tour_of
from slowshelves.common import need_size, rows_within
from slowshelves.errors import Refused
from slowshelves.gaps import is_paper_run, moves_of
from slowshelves.rules import need_rule
from slowshelves.tracks import is_walk_on
from slowshelves.turns import NO_OUT, first_standing, next_turn, rule_turns, turns_along

MOST_BEHIND = 9


class Walker(Chase):
    """Walks a web that is not calm against whoever answers, beside a mate who moves less.

    Again and again both hold one lot of blocks that hang together; then the walk leaves it.
    """

    def __init__(self, web, rooms):
        self.web = need_web(web)
        self.rooms = need_rooms(rooms)
        if is_calm(web, rooms):
            raise Refused(-1)
        self._is_fork, row = gaining_row(neighbours(web), rooms)
        rows = rows_within(neighbours(web), row)
        Chase.__init__(self, rooms, row, rows)
        self._plan = tour_of(rows, row[:rooms])

    def next_block(self):
        """The block that is touched next."""
        return self._plan[0]

    def touched(self, out):
        """Touches the next block; out is the block that goes out, None if none has to."""
        block = self._plan[0]
        self._need_out(block, out)
        lot = ()
        if self._has_to_choose(self._mate, block):
            lot = (aside_block(self._rows, self._row, block, out) if self._is_fork else self._leave_last(),)
        self._go_on(block, out, lot)
        self._plan = self._plan[1:]
        if not self._plan:
            self._plan = self._next_plan()

    def _next_plan(self):
        """The blocks to go to from here."""
        self._end_round()
        lacking = self._lacking()
        if lacking:
            return self._way_within(self._mate, self.walk[-1], lacking[0])
        if self._is_fork:
            ahead = [block for block in self._row if block not in self._mate][0]
        else:
            ahead = self._next_on_ring()
        return self._way_within(self._mate + (ahead,), self.walk[-1], ahead)

    def mate_run(self):
        """Some run of the walk with so many fewer moves as were gained."""
        return self._outs


def beaten_walk(web, rooms, rule, behind):
    """Some (walk, run) such that the rule makes just so many moves more than the run."""
    web = need_web(web)
    rule = need_rule(rooms, rule)
    need_size(behind, 1, MOST_BEHIND, "behind")
    walker = Walker(web, rooms)
    turns = rule_turns(rooms, rule)
    standing = first_standing(turns)
    while walker.gained < behind:
        out, standing = next_turn(turns, standing, walker.next_block())
        walker.touched(None if out == NO_OUT else out)
    return walker.walk, walker.mate_run()


def beaten_holds(web, rooms, rule, behind, value):
    """Whether any value is a walk and a run of it such that the rule makes at least so many moves more."""
    web = need_web(web)
    rule = need_rule(rooms, rule)
    need_size(behind, 1, MOST_BEHIND, "behind")
    if is_calm(web, rooms):
        raise Refused(-1)
    if not isinstance(value, tuple) or len(value) != 2 or not is_walk_on(neighbours(web), value[0]):
        return False
    walk, run = value
    if not is_paper_run(walk, (rooms,) * len(walk), run):
        return False
    moves = sum([moved for moved, _, _ in turns_along(rule_turns(rooms, rule), walk)])
    return moves - moves_of(walk, run) >= behind
