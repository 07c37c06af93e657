"""Small parts folded into levels or trees of lots, by going through all of them.

Cells of a part are numbered within it, and lots of them are numbers whose bits tell them.
"""

from itertools import combinations


def _part_masks(rows, part):
    """For each cell of the part those linked to it, as a lot."""
    bits = {cell: 1 << at for at, cell in enumerate(part)}
    return [sum([bits[other] for other in rows[cell]]) for cell in part]


def _beside(masks, lot):
    """All cells linked to one of the lot."""
    found = 0
    for mask in _masks_of(masks, lot):
        found = found | mask
    return found


def _masks_of(masks, lot):
    """The masks of the lot's cells."""
    return [mask for at, mask in enumerate(masks) if lot >> at & 1]


def _single_bits(lot):
    return [1 << at for at in range(lot.bit_length()) if lot >> at & 1]


def _grown_lots(wanted, free, room):
    """All lots of one to room cells with all wanted ones, the others of them free ones."""
    bits = _single_bits(free)
    space = room - len(_single_bits(wanted))
    if space < 0:
        return []
    lots = [wanted + sum(more) for size in range(space + 1) for more in combinations(bits, size)]
    return [lot for lot in lots if lot]


def _cells_of(part, lot):
    return tuple([cell for at, cell in enumerate(part) if lot >> at & 1])


def level_rows(rows, part, room):
    """Some levels of a part that hangs together, or None."""
    masks = _part_masks(rows, part)
    whole = (1 << len(part)) - 1
    # What is linked to the cells that are laid has to lie in the next level.
    ahead = {0: 0}
    waiting = [0]
    while waiting and whole not in ahead:
        laid = waiting.pop()
        wanted = _beside(masks, laid) & ~laid
        for lot in _grown_lots(wanted, whole & ~laid & ~wanted, room):
            if laid | lot not in ahead:
                ahead[laid | lot] = laid
                waiting.append(laid | lot)
    if whole not in ahead:
        return None
    levels = []
    while whole:
        levels.append(_cells_of(part, whole & ~ahead[whole]))
        whole = ahead[whole]
    return tuple(levels[::-1])


def lot_tree(rows, part, room):
    """Some tree of lots of a part that hangs together, or None."""
    masks = _part_masks(rows, part)
    whole = (1 << len(part)) - 1
    tops = {}
    if not _can_hang(masks, room, whole, 1, tops):
        return None
    pairs = []
    waiting = [(whole, -1)]
    while waiting:
        piece, at = waiting.pop()
        pairs.append((_cells_of(part, tops[piece]), at))
        number = len(pairs) - 1
        waiting.extend([(left, number) for left in _pieces(masks, piece & ~tops[piece])])
    return tuple(pairs)


def _can_hang(masks, room, piece, wanted, tops):
    """Whether a piece that hangs together has a tree of lots, the wanted cells in its first lot.

    tops keeps for each piece that was tried this lot, or 0: what is wanted are its cells that
    are linked to others than its own, so it is the same each time.
    """
    if piece not in tops:
        tops[piece] = 0
        for lot in _grown_lots(wanted, piece & ~wanted, room):
            beside = _beside(masks, lot)
            pieces = _pieces(masks, piece & ~lot)
            if all([_can_hang(masks, room, left, left & beside, tops) for left in pieces]):
                tops[piece] = lot
                break
    return tops[piece] != 0


def _pieces(masks, lot):
    """The pieces of the lot that hang together."""
    pieces = []
    while lot:
        piece = lot & -lot
        grown = (piece | _beside(masks, piece)) & lot
        while grown != piece:
            piece = grown
            grown = (piece | _beside(masks, piece)) & lot
        pieces.append(piece)
        lot = lot & ~piece
    return pieces
