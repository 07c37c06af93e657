"""Walks against whoever answers, beside a mate who moves less: where they gain, and how they go on."""

from slowshelves.calm import rows_paper
from slowshelves.common import hanging_parts, is_integer, reached_row, rows_within, shortest_way
from slowshelves.errors import InvalidOut
from slowshelves.gaps import memory_behind


class Chase:
    """A walk, what is answered, and what a mate does who holds the same lot again and again.

    On a ring the mate's lot is a stretch, which goes along the ring as the answers' does. Nothing
    tells then whether the mate kept the block where the round began, until the round closes.
    """

    def __init__(self, rooms, row, rows):
        self.walk = ()
        self.memory = ()
        self.moves = 0
        self.gained = 0
        self._rooms = rooms
        self._row = row
        self._rows = rows
        self._mate = ()
        self._outs = ()
        # Where in the row the stretch begins, and the moments of this round at which both moved.
        self._first = 0
        self._round = ()

    def _has_to_choose(self, memory, block):
        """Whether some block has to go out of this memory when the block is touched."""
        return block not in memory and len(memory) == self._rooms

    def _need_out(self, block, out):
        """What goes out of the answers' memory when the block is touched, None if none has to."""
        full = self._has_to_choose(self.memory, block)
        if full and (not is_integer(out) or out not in self.memory):
            raise InvalidOut(-1)
        if not full and out is not None:
            raise InvalidOut(-1)

    def _go_on(self, block, out, lot):
        """The block is touched; out is what is answered, and the lot what the mate lets go."""
        if block not in self.memory:
            self.moves += 1
            self.gained += 1 if block in self._mate else 0
        self.memory = memory_behind(self.memory, block, () if out is None else (out,))
        self._mate = memory_behind(self._mate, block, lot)
        self._outs = self._outs + (lot,)
        self.walk = self.walk + (block,)

    def _lacking(self):
        """The mate's blocks that are not in memory: going there the rule alone moves."""
        return [block for block in self._mate if block not in self.memory]

    def _way_within(self, lot, first, last):
        """The blocks behind the first one on some shortest way over these blocks."""
        return shortest_way(rows_within(self._rows, lot), first, last)[1:]

    def _ring_block(self, place):
        """The block at a place of the ring, going round as often as can be."""
        return self._row[place % len(self._row)]

    def _next_on_ring(self):
        """The block ahead of the mate's stretch."""
        return self._ring_block(self._first + self._rooms)

    def _leave_last(self):
        """The last block of the stretch, which the mate lets go as long as the answers do."""
        self._round = self._round + (len(self.walk),)
        self._first += 1
        return self._ring_block(self._first - 1)

    def _end_round(self):
        """A round ends when an answer leaves the stretch; if it is closed, the mate kept where it began."""
        if self._lacking():
            self._round = ()
        elif len(self._round) == len(self._row) - self._rooms:
            self._close_round()

    def _close_round(self):
        begin = self._first - len(self._round)
        outs = list(self._outs)
        for at, moment in enumerate(self._round):
            outs[moment] = (self._ring_block(begin + 1 + at),)
        self._outs = tuple(outs)
        self._first += 1
        self._mate = tuple(sorted([self._ring_block(self._first + at) for at in range(self._rooms)]))
        self._round = ()


def gaining_row(rows, rooms):
    """(whether it is a fork, its blocks): a fork of a web that is not calm, or else a ring."""
    for part in hanging_parts(rows):
        row = _part_fork(rows, part, rooms) if len(part) > rooms else None
        if row is not None:
            return True, tuple(row)
    return False, rows_paper(rows, rooms)[1]


def _part_fork(rows, part, rooms):
    """The blocks of some fork in a part of more blocks than rooms, each linked to one ahead, or None."""
    if rooms == 2:
        return _triangle(rows, part)
    crossing = [block for block in part if len(rows[block]) > 2]
    if crossing:
        return reached_row(rows, crossing[0])[:rooms + 1]
    # A ring of one block more than there are rooms is a fork, too.
    is_ring = all([len(rows[block]) == 2 for block in part])
    return reached_row(rows, part[0]) if is_ring and len(part) == rooms + 1 else None


def _triangle(rows, part):
    for one in part:
        for other in rows[one]:
            for third in rows[other]:
                if third in rows[one]:
                    return one, other, third
    return None


def tour_of(rows, row):
    """A walk over all blocks of a row that hangs together, each tree of ways gone along but twice."""
    within = rows_within(rows, row)
    met = {row[0]: True}
    way = [row[0]]
    tour = [row[0]]
    while len(met) < len(row):
        further = [block for block in within[way[-1]] if block not in met]
        if further:
            met[further[0]] = True
            way.append(further[0])
        else:
            way.pop()
        tour.append(way[-1])
    return tuple(tour)


def spare_blocks(rows, row):
    """The blocks of the row without each of which the others hang together, one at a time."""
    spare = []
    for block in row:
        others = [other for other in row if other != block]
        if len(reached_row(rows_within(rows, others), others[0])) == len(others):
            spare.append(block)
    return spare


def aside_block(rows, row, block, out):
    """A block of the fork aside of a shortest way between two, without which the others hang together."""
    way = shortest_way(rows, block, out)
    return [aside for aside in spare_blocks(rows, row) if aside not in way][0]
