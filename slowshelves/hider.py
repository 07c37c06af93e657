"""Hiders: walkers whose next touches are seen, and who gain without end all the same."""

from slowshelves.ahead import ahead_needed
from slowshelves.blocks import need_rooms, need_web, neighbours
from slowshelves.chases import Chase, gaining_row, spare_blocks, tour_of
from slowshelves.common import rows_within, shortest_way
from slowshelves.errors import Refused
from slowshelves.forks import fork_ways, need_ahead


class Hider(Chase):
    """Walks a web against a seer of so many touches ahead, beside a mate who moves less.

    Behind each touch at which something has to be chosen come as many touches as are seen that
    tell nothing; the walk is told further only when the answer is known.
    """

    def __init__(self, web, rooms, ahead):
        web = need_web(web)
        need_rooms(rooms)
        need_ahead(ahead)
        needed = ahead_needed(web, rooms)
        if needed is not None and ahead >= needed:
            raise Refused(-1)
        rows = neighbours(web)
        self._ahead = ahead
        # Of two rooms the fork of two ways, and the block that the mate keeps on them.
        self._ways = fork_ways(web, ahead) if rooms == 2 else None
        self._kept = None
        self._is_fork = False
        if rooms == 2:
            Chase.__init__(self, rooms, (), rows)
            self._plan = self._ways[:3] + self._ways[3]
        else:
            self._is_fork, row = gaining_row(rows, rooms)
            Chase.__init__(self, rooms, row, rows_within(rows, row))
            tour = tour_of(self._rows, row[:rooms])
            self._plan = tour + self._leaving(row[:rooms], tour[-1])

    def seen(self):
        """The touch at hand, and those that are seen ahead."""
        return self._plan[:self._ahead + 1]

    def touched(self, out):
        """Touches the block at hand; out is the block that goes out, None if none has to."""
        block = self._plan[0]
        self._need_out(block, out)
        lot = (self._mate_out(block, out),) if self._has_to_choose(self._mate, block) else ()
        self._go_on(block, out, lot)
        self._plan = self._plan[1:]
        if len(self._plan) == self._ahead:
            self._plan = self._plan + self._further()

    def mate(self):
        """Some run of the walk with so many fewer moves as the seer is behind."""
        return self._outs

    def behind(self):
        """How many moves more than the mate's the seer's are."""
        return self.gained

    def _mate_out(self, block, out):
        """What goes out of the mate's memory where both move."""
        if self._ways is not None:
            kept = self._kept_block(block, out)
            return [other for other in self._mate if other != kept][0]
        if not self._is_fork:
            return self._leave_last()
        # What is gone to and fro over while it is seen, and what the seer let go, stay.
        stay = (self.walk[-1], block, out)
        return [other for other in spare_blocks(self._rows, self._row) if other not in stay][0]

    def _kept_block(self, block, out):
        """Of two rooms: which block stays in the mate's memory."""
        one, between, touched = self._ways[:3]
        if block == touched and one in self._mate and between in self._mate:
            self._kept = out
        if self._kept is not None:
            return self._kept
        if self.walk[-1] == one and block == between:
            return one
        # On the way to the fork the mate does as the seer.
        return [other for other in self.memory if other != out][0]

    def _further(self):
        """The touches behind those that are told, when all that was chosen is known."""
        if self._ways is not None and self._kept is not None and self.walk[-1] != self._kept:
            return self._way_to_kept()
        self._kept = None
        self._end_round()
        place = (self.walk + self._plan)[-1]
        lacking = self._lacking()
        if lacking:
            beside = [block for block in self._rows[lacking[0]] if block in self._mate]
            return self._way_within(self._mate, place, lacking[0]) + self._to_and_fro(beside[0], lacking[0])
        if self._ways is not None:
            return self._to_fork(place)
        return self._leaving(self._mate, place)

    def _to_and_fro(self, one, other):
        """As many touches as are seen ahead, behind a touch of the other one."""
        return ((one, other) * self._ahead)[:self._ahead]

    def _leaving(self, lot, place):
        """From three rooms on, when both hold this lot: the way to a block beside it, and to and fro."""
        if self._is_fork:
            block = [other for other in self._row if other not in lot][0]
            door = self._door(block)
        else:
            block = self._next_on_ring()
            door = self._ring_block(self._first + self._rooms - 1)
        return self._way_within(lot, place, door) + (block,) + self._to_and_fro(door, block)

    def _door(self, block):
        """A block beside this one, such that besides both, whatever goes out, another one can be let go."""
        spare = spare_blocks(self._rows, self._row)
        doors = [
            door
            for door in self._rows[block]
            if len([other for other in spare if other not in (door, block)]) >= 2
        ]
        return doors[0]

    def _way_to_kept(self):
        """Of two rooms: on from the fork's common steps to the block that the mate keeps."""
        one, _, touched, common, to_one, to_between = self._ways
        way = to_one if self._kept == one else to_between
        return way + self._to_and_fro((touched, *common, *way)[-2], way[-1])

    def _to_fork(self, place):
        """Of two rooms, when both hold one lot: the way to the fork, or on along its common steps."""
        one, between, touched, common = self._ways[:4]
        if one in self._mate and between in self._mate:
            return (() if place == between else (between,)) + (touched, *common)
        return shortest_way(self._rows, place, one)[1:] + (between,) + self._to_and_fro(one, between)
