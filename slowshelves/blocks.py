"""Webs of blocks, layouts of cells in blocks, and folds of webs."""

from math import comb

from slowshelves.common import (
    hanging_parts,
    is_below,
    is_pair,
    is_sequence,
    is_within,
    linked_rows,
    need_size,
    numbered,
)
from slowshelves.errors import (
    InvalidBlock,
    InvalidFold,
    InvalidIndex,
    InvalidLayout,
    InvalidRoom,
    InvalidRooms,
    InvalidSize,
    InvalidWeb,
)
from slowshelves.shelves import MOST_CELLS, MOST_CHAINS, need_shelf, shelf_links

MOST_BLOCKS = 40
MOST_ROOMS = 5
MOST_ROOM = 8
MOST_COUNTED = 30


def need_web(value):
    """Any value as a web: its links ascending, the lesser block first, each once."""
    if not is_pair(value):
        raise InvalidWeb(-1)
    many, links = value
    if not is_within(many, 1, MOST_BLOCKS) or not is_sequence(links):
        raise InvalidWeb(-1)
    for at, link in enumerate(links):
        if not _is_link(many, link):
            raise InvalidWeb(at)
    return many, _ascending_links(links)


def _is_link(many, value):
    if not is_pair(value):
        return False
    return is_below(value[0], many) and is_below(value[1], many) and value[0] != value[1]


def _ascending_links(links):
    pairs = [(min(one, other), max(one, other)) for one, other in links]
    return tuple(sorted(set(pairs)))


def neighbours(web):
    """For each block those linked to it, ascending."""
    many, links = need_web(web)
    return linked_rows(many, links)


def web_parts(web):
    """The lots of blocks that hang together by links, ascending."""
    return hanging_parts(neighbours(web))


def need_rooms(value):
    """Any value, if it is a number of blocks that a memory has rooms for."""
    if not is_within(value, 1, MOST_ROOMS):
        raise InvalidRooms(-1)
    return value


def need_room(value):
    """Any value, if it is a number of cells that a block has room for."""
    if not is_within(value, 1, MOST_ROOM):
        raise InvalidRoom(-1)
    return value


def need_block(web, value):
    """Any value, if it is a block of the web."""
    if not is_below(value, need_web(web)[0]):
        raise InvalidBlock(-1)
    return value


def plain_layout(value):
    """Any value as a layout, its blocks numbered as first come to."""
    if not is_sequence(value) or not 1 <= len(value) <= MOST_CELLS:
        raise InvalidLayout(-1)
    return _roomy_layout(value, len(value))


def layout_beside(shelf, value):
    """Any value as a layout of the cells of this shelf, which is one."""
    return _layout_of(shelf[0], shelf[0], value)


def need_layout(shelf, room, value):
    """Any value as a layout of the shelf with at most room cells in a block."""
    cells = need_shelf(shelf)[0]
    return _layout_of(cells, need_room(room), value)


def _layout_of(cells, room, value):
    if not is_sequence(value) or len(value) != cells:
        raise InvalidLayout(-1)
    return _roomy_layout(value, room)


def _roomy_layout(row, room):
    held = {}
    for at, block in enumerate(row):
        if not is_below(block, MOST_CELLS):
            raise InvalidLayout(at)
        held[block] = held.get(block, 0) + 1
        if held[block] > room:
            raise InvalidLayout(at)
    return numbered(row)


def layout_blocks(layout):
    """For each block its cells, ascending."""
    layout = plain_layout(layout)
    blocks = [[] for _ in range(max(layout) + 1)]
    for cell, block in enumerate(layout):
        blocks[block].append(cell)
    return tuple([tuple(block) for block in blocks])


def layout_web(shelf, layout):
    """The web of the layout: blocks are linked where cells of theirs are."""
    shelf = need_shelf(shelf)
    layout = layout_beside(shelf, layout)
    if max(layout) >= MOST_BLOCKS:
        raise InvalidSize("blocks")
    return max(layout) + 1, _links_between(shelf_links(shelf), layout)


def _links_between(links, blocks):
    pairs = [(blocks[one], blocks[other]) for one, other in links if blocks[one] != blocks[other]]
    return _ascending_links(pairs)


def run_layout(cells, room):
    """Blocks of so many cells, one behind another."""
    need_size(cells, 1, MOST_CELLS, "cells")
    need_room(room)
    return tuple([cell // room for cell in range(cells)])


def joined_layout(layout, one, other):
    """The layout with two blocks made one."""
    layout = plain_layout(layout)
    for at, block in enumerate((one, other)):
        if not is_below(block, max(layout) + 1):
            raise InvalidBlock(at)
    return numbered([one if block == other else block for block in layout])


def web_shelf(web):
    """The shelf whose web this is, with each cell by itself."""
    many, links = need_web(web)
    if len(links) > MOST_CHAINS:
        raise InvalidSize("links")
    return many, tuple([("list", link) for link in links])


def layout_count(cells, room):
    """How many layouts so many cells have in blocks of at most so many."""
    need_size(cells, 1, MOST_COUNTED, "cells")
    return _layout_counts(cells, need_room(room))[cells]


def _layout_counts(cells, room):
    """For each number of cells up to these how many layouts there are."""
    counts = [1]
    for many in range(1, cells + 1):
        # The block of the first cell has any size, and any cells beside this one.
        counts.append(sum([
            comb(many - 1, size - 1) * counts[many - size]
            for size in range(1, min(many, room) + 1)
        ]))
    return counts


def _grown(sizes, block):
    """The sizes of the blocks with one cell more in this one, which may be a new one."""
    size = sizes[block] if block < len(sizes) else 0
    return sizes[:block] + [size + 1] + sizes[block + 1:]


def _ways_on(left, room, sizes):
    """How many layouts go on with so many cells more, beside blocks of these sizes."""
    ways = [1] + [0] * left
    for size in sizes:
        most = room - size
        ways = [
            sum([comb(many, taken) * ways[many - taken] for taken in range(min(most, many) + 1)])
            for many in range(left + 1)
        ]
    counts = _layout_counts(left, room)
    return sum([comb(left, many) * ways[many] * counts[left - many] for many in range(left + 1)])


def _branch_counts(left, room, sizes):
    """For each block that the next cell may go to, the new one last, how many layouts go on so."""
    counts = []
    by_size = {room: 0}
    for block, size in enumerate(sizes + [0]):
        # Blocks of one size go on alike, so each size is counted once.
        if size not in by_size:
            by_size[size] = _ways_on(left, room, _grown(sizes, block))
        counts.append(by_size[size])
    return counts


def nth_layout(cells, room, number):
    """The layout of this number, layouts ascending."""
    if not is_below(number, layout_count(cells, room)):
        raise InvalidIndex(-1)
    layout = []
    sizes = []
    for left in reversed(range(cells)):
        counts = _branch_counts(left, room, sizes)
        block = 0
        while number >= counts[block]:
            number -= counts[block]
            block += 1
        layout.append(block)
        sizes = _grown(sizes, block)
    return tuple(layout)


def layout_number(cells, room, layout):
    """The number of the layout, layouts ascending."""
    need_size(cells, 1, MOST_COUNTED, "cells")
    layout = _layout_of(cells, need_room(room), layout)
    number = 0
    sizes = []
    for cell, block in enumerate(layout):
        counts = _branch_counts(cells - 1 - cell, room, sizes)
        number += sum(counts[:block])
        sizes = _grown(sizes, block)
    return number


def need_fold(web, value):
    """Any value as a fold of the web: a new block for each, no number lacking."""
    many = need_web(web)[0]
    if not is_sequence(value) or len(value) != many:
        raise InvalidFold(-1)
    for at, block in enumerate(value):
        if not is_below(block, many):
            raise InvalidFold(at)
    if len(set(value)) != max(value) + 1:
        raise InvalidFold(-1)
    return tuple(value)


def folded_web(web, fold):
    """The web of the new blocks."""
    web = need_web(web)
    fold = need_fold(web, fold)
    return max(fold) + 1, _links_between(web[1], fold)
