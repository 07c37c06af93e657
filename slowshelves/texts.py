"""Texts of shelves, layouts, webs and walks, written and read."""

from slowshelves.blocks import MOST_BLOCKS, layout_blocks, need_room, need_web, neighbours
from slowshelves.common import numbered
from slowshelves.errors import InvalidText
from slowshelves.shelves import MOST_CELLS, MOST_CHAINS, need_shelf
from slowshelves.tracks import MOST_TOUCHES, need_touches

LETTERS = "abcdefghijklmnopqrstuvwxyz"
FIGURES = "0123456789"
BLANK = " "
NEWLINE = "\n"
# No number that can be read has more figures.
MOST_FIGURES = 3


def _line(words):
    return BLANK.join([str(word) for word in words])


def _lines(rows):
    return NEWLINE.join([_line(row) for row in rows])


def shelf_text(shelf):
    """The shelf written: its cells, then a line for each chain."""
    cells, chains = need_shelf(shelf)
    return _lines([("shelf", cells)] + [(kind, *row) for kind, row in chains])


def layout_text(layout):
    """The layout written: a line for each block."""
    return _lines([("block", *cells) for cells in layout_blocks(layout)])


def web_text(web):
    """The web written: its blocks, then a line for each block that is linked to greater ones."""
    many, _ = need_web(web)
    lines = [("web", many)]
    for block, row in enumerate(neighbours(web)):
        greater = [other for other in row if other > block]
        if greater:
            lines.append((block, "to", *greater))
    return _lines(lines)


def walk_text(walk):
    """The walk written: its blocks in one line."""
    return _line(need_touches(walk))


def _words(text):
    """All (at, word) of a text."""
    words = []
    at = 0
    while at < len(text):
        end = _word_end(text, at)
        if text[at] != BLANK:
            words.append((at, text[at:end]))
        at = end
    return words


def _word_end(text, at):
    """Where the word that begins here ends."""
    end = at + 1
    for signs in (LETTERS, FIGURES):
        if text[at] in signs:
            while end < len(text) and text[end] in signs:
                end += 1
    return end


def _told_number(word):
    """The number that a word tells, or None."""
    if word[0] not in FIGURES or len(word) > MOST_FIGURES or (word[0] == "0" and word != "0"):
        return None
    return int(word)


class Reader:
    """Takes one word of a text after the other; the first one that cannot stand there is told."""

    def __init__(self, text):
        if not isinstance(text, str):
            raise InvalidText(-1)
        self.words = _words(text)
        self.ends = len(text)
        self.place = 0

    def is_done(self):
        """Whether all words are taken."""
        return self.place == len(self.words)

    def goes_on(self):
        """Whether there are more words in this line."""
        return not self.is_done() and self.words[self.place][1] != NEWLINE

    def refuse(self):
        """The next word is wrong, or lacking."""
        raise InvalidText(self.ends if self.is_done() else self.words[self.place][0])

    def take(self, words):
        """The next word, which has to be one of these."""
        if self.is_done() or self.words[self.place][1] not in words:
            self.refuse()
        self.place += 1
        return self.words[self.place - 1][1]

    def take_number(self, numbers):
        """The next word, which has to be one of these numbers."""
        if self.is_done() or _told_number(self.words[self.place][1]) not in numbers:
            self.refuse()
        self.place += 1
        return int(self.words[self.place - 1][1])


def read_shelf(text):
    """The shelf of a text."""
    reader = Reader(text)
    reader.take(("shelf",))
    cells = reader.take_number(list(range(1, MOST_CELLS + 1)))
    chains = []
    while not reader.is_done():
        if len(chains) == MOST_CHAINS:
            reader.refuse()
        reader.take((NEWLINE,))
        chains.append(_read_chain(reader, cells))
    return cells, tuple(chains)


def _read_chain(reader, cells):
    # A ring that has too few cells to be one cannot be read, whatever comes.
    kind = reader.take(("list", "ring") if cells >= 3 else ("list",))
    least = 3 if kind == "ring" else 1
    left = {cell: True for cell in range(cells)}
    row = []
    while len(row) < least or reader.goes_on():
        row.append(reader.take_number(left))
        del left[row[-1]]
    return kind, tuple(row)


def read_layout(shelf, room, text):
    """The layout of a text, of this shelf with at most room cells in a block."""
    left = {cell: True for cell in range(need_shelf(shelf)[0])}
    need_room(room)
    reader = Reader(text)
    blocks = []
    while left:
        if blocks:
            reader.take((NEWLINE,))
        blocks.append(_read_block(reader, room, left))
    if not reader.is_done():
        reader.refuse()
    found = {cell: at for at, row in enumerate(blocks) for cell in row}
    return numbered([found[cell] for cell in range(len(found))])


def _read_block(reader, room, left):
    """The cells of the next block, taken from those that are left."""
    reader.take(("block",))
    row = []
    while not row or reader.goes_on():
        row.append(reader.take_number(left if len(row) < room else ()))
        del left[row[-1]]
    return row


def read_web(text):
    """The web of a text."""
    reader = Reader(text)
    reader.take(("web",))
    many = reader.take_number(list(range(1, MOST_BLOCKS + 1)))
    links = []
    while not reader.is_done():
        # No line can tell a link of an only block.
        reader.take((NEWLINE,) if many > 1 else ())
        links.extend(_read_links(reader, many))
    return need_web((many, links))


def _read_links(reader, many):
    block = reader.take_number(list(range(many)))
    reader.take(("to",))
    others = [other for other in range(many) if other != block]
    links = [(block, reader.take_number(others))]
    while reader.goes_on():
        links.append((block, reader.take_number(others)))
    return links


def read_walk(web, text):
    """The walk of a text, of this web."""
    rows = neighbours(web)
    reader = Reader(text)
    walk = [reader.take_number(list(range(len(rows))))]
    while not reader.is_done():
        walk.append(reader.take_number(rows[walk[-1]] if len(walk) < MOST_TOUCHES else ()))
    return tuple(walk)
