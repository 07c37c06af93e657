"""Houses: a shelf, its layout, and a rule for so many rooms; and what can be done to them."""

from slowshelves.blocks import (
    MOST_BLOCKS,
    MOST_ROOM,
    MOST_ROOMS,
    layout_web,
    need_layout,
    need_room,
    need_rooms,
)
from slowshelves.calm import is_calm
from slowshelves.common import is_below, is_sequence, is_within
from slowshelves.errors import (
    InvalidDeed,
    InvalidHouse,
    InvalidLayout,
    InvalidRule,
    InvalidShelf,
    InvalidSize,
    Refused,
)
from slowshelves.levels import laid_paper
from slowshelves.rules import need_rule
from slowshelves.shelves import MOST_CELLS, is_chain, need_shelf


class House:
    """A shelf in blocks of this room, and a rule for a memory with so many rooms."""

    def __init__(self, shelf, room, layout, rooms, rule):
        self.shelf = need_shelf(shelf)
        self.room = need_room(room)
        self.layout = need_layout(self.shelf, room, layout)
        self.rooms = need_rooms(rooms)
        self.rule = need_rule(rooms, rule)
        self.web = layout_web(self.shelf, self.layout)

    def __eq__(self, other):
        return (
            isinstance(other, House)
            and self.shelf == other.shelf
            and self.room == other.room
            and self.layout == other.layout
            and self.rooms == other.rooms
            and self.rule == other.rule
        )


def need_house(value):
    """Any value, if it is a house."""
    if not isinstance(value, House):
        raise InvalidHouse(-1)
    return value


def deed_done(house, deed):
    """The house behind the deed."""
    need_house(house)
    if not _is_deed(house, deed):
        raise InvalidDeed(-1)
    shelf = _shelf_behind(house, deed)
    layout = _layout_behind(house, deed)
    room = deed[1] if deed[0] == "room" else house.room
    rooms = deed[1] if deed[0] == "rooms" else house.rooms
    rule = deed[1] if deed[0] == "rule" else house.rule
    try:
        return House(shelf, room, layout, rooms, rule)
    except (InvalidShelf, InvalidLayout, InvalidRule, InvalidSize):
        raise Refused(-1) from None


def _is_deed(house, value):
    """Whether any value is a deed of this house."""
    if not isinstance(value, tuple) or not value or not isinstance(value[0], str):
        return False
    kind, *told = value
    blocks = house.web[0]
    if kind in ("cell", "calm"):
        return not told
    if kind == "chain":
        return is_chain(house.shelf[0], told)
    if kind == "move":
        return len(told) == 2 and is_below(told[0], house.shelf[0]) and is_below(told[1], blocks + 1)
    if kind == "join":
        return len(told) == 2 and all([is_below(block, blocks) for block in told]) and told[0] != told[1]
    return len(told) == 1 and _is_told(house, kind, told[0])


def _is_told(house, kind, value):
    """Whether any value can be what is told by a deed of this kind, which tells just one thing."""
    if kind == "strike":
        return is_below(value, len(house.shelf[1]))
    if kind == "lay":
        as_many = is_sequence(value) and len(value) == house.shelf[0]
        return as_many and all([is_below(block, MOST_CELLS) for block in value])
    if kind == "room":
        return is_within(value, 1, MOST_ROOM)
    if kind == "rooms":
        return is_within(value, 1, MOST_ROOMS)
    return kind == "rule" and _is_rule(house.rooms, value)


def _is_rule(rooms, value):
    try:
        need_rule(rooms, value)
    except InvalidRule:
        return False
    return True


def _shelf_behind(house, deed):
    cells, chains = house.shelf
    if deed[0] == "chain":
        return cells, chains + (deed[1:],)
    if deed[0] == "strike":
        return cells, chains[:deed[1]] + chains[deed[1] + 1:]
    return cells + 1 if deed[0] == "cell" else cells, chains


def _layout_behind(house, deed):
    kind, *told = deed
    layout = house.layout
    if kind == "cell":
        return layout + (house.web[0],)
    if kind == "move":
        return layout[:told[0]] + (told[1],) + layout[told[0] + 1:]
    if kind == "join":
        return tuple([told[0] if block == told[1] else block for block in layout])
    if kind == "lay":
        return told[0]
    return _calm_layout(house) if kind == "calm" else layout


def _calm_layout(house):
    """The layout of some "laid" paper; the house's own one, if it is calm and the one found has too many blocks."""
    paper = laid_paper(house.shelf, house.room, house.rooms)
    if paper[0] != "laid":
        raise Refused(-1)
    if max(paper[1]) >= MOST_BLOCKS and is_calm(house.web, house.rooms):
        return house.layout
    return paper[1]
