"""Pieces of a layout: cells that hang together within one block, and what ways can follow."""

from slowshelves.common import hanging_parts, is_below, linked_rows
from slowshelves.shelves import linked_cells, shelf_links


def cell_pieces(shelf, layout):
    """For each cell its piece; shelf and layout are ones."""
    rows = linked_cells(shelf)
    within = [[other for other in row if layout[other] == layout[cell]] for cell, row in enumerate(rows)]
    pieces = [0] * len(layout)
    for piece, cells in enumerate(hanging_parts(within)):
        for cell in cells:
            pieces[cell] = piece
    return tuple(pieces)


def piece_blocks(layout, pieces):
    """For each piece its block."""
    blocks = [0] * (max(pieces) + 1)
    for cell, piece in enumerate(pieces):
        blocks[piece] = layout[cell]
    return blocks


def piece_rows(shelf, pieces):
    """For each piece those linked to it, ascending."""
    links = [(pieces[one], pieces[other]) for one, other in shelf_links(shelf)]
    return linked_rows(max(pieces) + 1, sorted(set([(min(link), max(link)) for link in links if link[0] != link[1]])))


def block_lot(blocks, block):
    """All pieces of the block, ascending."""
    return tuple([piece for piece, its_block in enumerate(blocks) if its_block == block])


def next_lot(rows, blocks, lot, block):
    """The pieces of the block linked to one of the lot, ascending."""
    return tuple(sorted(set([piece for ahead in lot for piece in rows[ahead] if blocks[piece] == block])))


def met_lots(beside, rows, blocks):
    """What walks lead to: (lots, walk): all (block, lot) if each walk is followed, or a walk.

    The walk is the least of the shortest that are not followed, else None: lots are met in
    the order of the least walks that lead to them.
    """
    lots = [(block, block_lot(blocks, block)) for block in range(len(beside))]
    met = {lot: True for lot in lots}
    ahead = [-1] * len(lots)
    at = 0
    while at < len(lots):
        block, lot = lots[at]
        for following in beside[block]:
            found = next_lot(rows, blocks, lot, following)
            if not found:
                return lots, _walk_to(lots, ahead, at) + (following,)
            if (following, found) not in met:
                met[(following, found)] = True
                lots.append((following, found))
                ahead.append(at)
        at += 1
    return lots, None


def _walk_to(lots, ahead, at):
    walk = []
    while at != -1:
        walk.append(lots[at][0])
        at = ahead[at]
    return tuple(walk[::-1])


def lots_hold(beside, rows, blocks, value):
    """Whether any value is a tuple of lots that show each walk to be followed."""
    if not isinstance(value, tuple) or not all([_is_piece_lot(blocks, lot) for lot in value]):
        return False
    masks = [[] for _ in range(len(beside))]
    for lot in value:
        masks[blocks[lot[0]]].append(_mask(lot))
    if not all(masks):
        return False
    return all([
        _lies_within(masks[block], _mask(next_lot(rows, blocks, lot, block)))
        for lot in sorted(set(value))
        for block in beside[blocks[lot[0]]]
    ])


def _is_piece_lot(blocks, value):
    if not isinstance(value, tuple) or not value:
        return False
    if not all([is_below(piece, len(blocks)) for piece in value]):
        return False
    return all([blocks[piece] == blocks[value[0]] for piece in value])


def _mask(lot):
    """The lot as a number, so that it is quickly seen what lies within what."""
    mask = 0
    for piece in lot:
        mask = mask | 1 << piece
    return mask


def _lies_within(masks, whole):
    return any([mask & whole == mask for mask in masks])
