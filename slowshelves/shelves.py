"""Shelves of chains, and the links of their cells."""

from slowshelves.common import hanging_parts, is_pair, is_sequence, is_unlike_row, is_within, linked_rows, need_size
from slowshelves.errors import InvalidShelf

MOST_CELLS = 200
MOST_CHAINS = 200


def need_shelf(value):
    """Any value as a shelf, in tuples."""
    if not is_pair(value):
        raise InvalidShelf(-1)
    cells, chains = value
    if not is_within(cells, 1, MOST_CELLS) or not is_sequence(chains):
        raise InvalidShelf(-1)
    for at, chain in enumerate(chains):
        if at == MOST_CHAINS or not is_chain(cells, chain):
            raise InvalidShelf(at)
    return cells, tuple([(kind, tuple(row)) for kind, row in chains])


def is_chain(cells, value):
    """Whether any value is a chain (kind, row) of so many cells."""
    if not is_pair(value) or not is_unlike_row(value[1], cells):
        return False
    kind, row = value
    return (kind == "list" and len(row) >= 1) or (kind == "ring" and len(row) >= 3)


def shelf_links(shelf):
    """The pairs of linked cells, the lesser one first, ascending, each once."""
    return _chain_links(need_shelf(shelf)[1])


def _chain_links(chains):
    links = []
    for kind, row in chains:
        links.extend([(min(one, other), max(one, other)) for one, other in zip(row, row[1:])])
        if kind == "ring":
            links.append((min(row[0], row[-1]), max(row[0], row[-1])))
    return tuple(sorted(set(links)))


def linked_cells(shelf):
    """For each cell those linked to it, ascending."""
    cells, chains = need_shelf(shelf)
    return linked_rows(cells, _chain_links(chains))


def cell_parts(shelf):
    """The lots of cells that hang together by links, ascending."""
    return hanging_parts(linked_cells(shelf))


def list_shelf(cells):
    """The shelf of one list of all its cells."""
    need_size(cells, 1, MOST_CELLS, "cells")
    return cells, (("list", tuple(range(cells))),)


def ring_shelf(cells):
    """The shelf of one ring of all its cells."""
    need_size(cells, 3, MOST_CELLS, "cells")
    return cells, (("ring", tuple(range(cells))),)
