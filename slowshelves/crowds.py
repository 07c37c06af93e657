"""Rows touched in any order, their greatest crowds, and what goes out of enough rooms."""

from slowshelves.blocks import MOST_BLOCKS, need_rooms
from slowshelves.common import is_below, is_integer, is_sequence, struck
from slowshelves.errors import InvalidOrder, InvalidRows, InvalidSize, Refused

MOST_ROWS = 4
MOST_ROW_TOUCHES = 60
MOST_STANDINGS = 10000


def need_rows(value):
    """Any value as rows of touches, in tuples."""
    if not is_sequence(value) or not 1 <= len(value) <= MOST_ROWS:
        raise InvalidRows(-1)
    for at, row in enumerate(value):
        if not is_sequence(row) or not 1 <= len(row) <= MOST_ROW_TOUCHES:
            raise InvalidRows(at)
        if not all([is_below(block, MOST_BLOCKS) for block in row]):
            raise InvalidRows(at)
    return tuple([tuple(row) for row in value])


def need_order(rows, value):
    """Any value as an order of the rows."""
    if not is_sequence(value):
        raise InvalidOrder(-1)
    left = [len(row) for row in rows]
    for at, number in enumerate(value):
        if not is_below(number, len(rows)) or left[number] == 0:
            raise InvalidOrder(at)
        left[number] -= 1
    if any(left):
        raise InvalidOrder(len(value))
    return tuple(value)


def order_touches(rows, order):
    """The touches of the rows in this order, of alike neighbours only one."""
    rows = need_rows(rows)
    return struck(_ordered_blocks(rows, need_order(rows, order)))


def _ordered_blocks(rows, order):
    done = [0] * len(rows)
    blocks = []
    for number in order:
        blocks.append(rows[number][done[number]])
        done[number] += 1
    return blocks


def _small_standings(rows):
    """All standings of the rows, if there are few enough."""
    many = 1
    for row in rows:
        many = many * (len(row) + 1)
    if many > MOST_STANDINGS:
        raise InvalidSize("standings")
    standings = [()]
    for row in rows:
        standings = [standing + (done,) for standing in standings for done in range(len(row) + 1)]
    return standings


def _block_masks(row):
    """For 0, 1, .. touches of a row the blocks of these, as a number."""
    masks = [0]
    for block in row:
        masks.append(masks[-1] | 1 << block)
    return masks


def _row_masks(rows):
    """For each row, for each number of done touches: (blocks of them, blocks of the others)."""
    masks = []
    for row in rows:
        left = _block_masks(row[::-1])[::-1]
        masks.append(list(zip(_block_masks(row), left)))
    return masks


def _open_mask(masks, standing):
    """The open blocks of a standing, as a number."""
    touched = 0
    coming = 0
    for row, done in zip(masks, standing):
        touched = touched | row[done][0]
        coming = coming | row[done][1]
    return touched & coming


def _crowd_sizes(rows, masks, standing):
    """For each row with some touches done the size of its crowd."""
    mask = _open_mask(masks, standing)
    sizes = {}
    for number, done in enumerate(standing):
        if done > 0:
            crowd = mask | 1 << rows[number][done - 1]
            sizes[number] = f"{crowd:b}".count("1")
    return sizes


def _greatest_crowd(rows):
    """(rooms, standing, row) of a greatest crowd."""
    standings = _small_standings(rows)
    masks = _row_masks(rows)
    best = (0, (), 0)
    for standing in standings:
        sizes = _crowd_sizes(rows, masks, standing)
        for number in sizes:
            if sizes[number] > best[0]:
                best = (sizes[number], standing, number)
    return best


def crowd_paper(rows):
    """Some (rooms, standing, row) with the greatest crowd."""
    return _greatest_crowd(need_rows(rows))


def crowd_holds(rows, value):
    """Whether any value is such a triple."""
    rows = need_rows(rows)
    many = _greatest_crowd(rows)[0]
    if not isinstance(value, tuple) or len(value) != 3:
        return False
    rooms, standing, number = value
    if not is_integer(rooms) or rooms != many or not is_below(number, len(rows)):
        return False
    if not isinstance(standing, tuple) or len(standing) != len(rows):
        return False
    if not all([is_below(done, len(row) + 1) for done, row in zip(standing, rows)]):
        return False
    return _crowd_sizes(rows, _row_masks(rows), standing).get(number) == many


def open_run(rows, rooms, order):
    """For each touch what goes out, or -1: at a full move the least block that is not open."""
    rows = need_rows(rows)
    need_rooms(rooms)
    order = need_order(rows, order)
    many = _greatest_crowd(rows)[0]
    if rooms < many:
        raise Refused(many)
    blocks = _ordered_blocks(rows, order)
    memory = []
    outs = []
    for at, block in enumerate(blocks):
        if at > 0 and block == blocks[at - 1]:
            continue
        out = -1
        if block not in memory and len(memory) == rooms:
            # Of the blocks in memory all were touched, so those are open that will be.
            out = [other for other in memory if other not in blocks[at:]][0]
        memory = sorted([other for other in memory if other not in (out, block)] + [block])
        outs.append(out)
    return tuple(outs)


def crowd_order(rows, rooms):
    """Some order on which hindsight moves a block twice, or None with enough rooms."""
    rows = need_rows(rows)
    need_rooms(rooms)
    many, standing, last = _greatest_crowd(rows)
    if rooms >= many:
        return None
    order = []
    for number, done in enumerate(standing):
        order.extend([number] * (done - 1 if number == last else done))
    order.append(last)
    for number, done in enumerate(standing):
        order.extend([number] * (len(rows[number]) - done))
    return tuple(order)
