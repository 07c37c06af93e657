"""Promises 12 and 13."""

import re
import unittest
from itertools import product

from slowshelves.errors import (
    InvalidLayout, InvalidRoom, InvalidShelf, InvalidText, InvalidWalk, InvalidWeb,
)
from slowshelves.texts import (
    layout_text, read_layout, read_shelf, read_walk, read_web, shelf_text, walk_text, web_text,
)
from tests.support import ANY, Case, all_webs, line, ring, rows_of, walks_of, whole

SHELF = (4, (("list", (0, 1, 2)), ("ring", (1, 3, 2)), ("list", (3,))))
PIECES = ("", " ", "0", "1", "2", "00", "01", "3", "9", "10", "\n", "\n\n", "shelf", "web", "block", "list", "ring", "to", "x",
          "lists", "L", "-", "+", ".", ",", "\t", "\r", "_", "0x", "1e", "\u0663", "\u00b2", "\u00e9")


def words_by_eye(text):
    return [(found.start(), found.group()) for found in re.finditer(r"[a-z]+|[0-9]+|[^ ]", text)]


def first_wrong(text, goes_on):
    """Where the text is first wrong: goes_on tells whether some text that can be read begins with words."""
    words = words_by_eye(text)
    for many in range(1, len(words) + 1):
        if not goes_on([word for _, word in words[:many]]):
            return words[many - 1][0]
    return None


def number_of(word, limit):
    return int(word) if re.fullmatch("0|[1-9][0-9]{0,5}", word) and int(word) < limit else None


def lines_of(words):
    lines = [[]]
    for word in words:
        if word == "\n":
            lines.append([])
        else:
            lines[-1].append(word)
    return lines


class Grammar:
    """For each kind of text whether words can be the first ones of one, and whether they are one."""

    def shelf(self, words, whole_text=False):
        lines = lines_of(words)
        head = lines[0]
        if head[:1] not in ([], ["shelf"]) or len(head) > 2:
            return False
        if len(head) < 2:
            return len(lines) == 1 and not whole_text
        cells = number_of(head[1], 201)
        if not cells or len(lines) > 201:
            return False
        for at, row in enumerate(lines[1:], 1):
            done = whole_text or at < len(lines) - 1
            if not row:
                if done:
                    return False
                continue
            least = {"list": 1, "ring": 3}.get(row[0])
            numbers = [number_of(word, cells) for word in row[1:]]
            if least is None or least > cells or None in numbers or len(set(numbers)) < len(numbers):
                return False
            if done and len(numbers) < least:
                return False
        return True

    def layout(self, cells, room, words, whole_text=False):
        seen = []
        lines = lines_of(words)
        for at, row in enumerate(lines):
            if at and len(seen) == cells:
                return False
            done = whole_text or at < len(lines) - 1
            if row[:1] not in ([], ["block"]) or (done and len(row) < 2):
                return False
            numbers = [number_of(word, cells) for word in row[1:]]
            if None in numbers or len(numbers) > room:
                return False
            seen += numbers
            if len(set(seen)) < len(seen):
                return False
        return len(seen) == cells or not whole_text

    def web(self, words, whole_text=False):
        lines = lines_of(words)
        head = lines[0]
        if head[:1] not in ([], ["web"]) or len(head) > 2:
            return False
        if len(head) < 2:
            return len(lines) == 1 and not whole_text
        many = number_of(head[1], 41)
        if not many or (many == 1 and len(lines) > 1):
            return False
        for at, row in enumerate(lines[1:], 1):
            done = whole_text or at < len(lines) - 1
            if row[1:2] not in ([], ["to"]):
                return False
            numbers = [number_of(word, many) for word in row[:1] + row[2:]]
            if None in numbers or numbers[0:1] and numbers[0] in numbers[1:] or (done and len(numbers) < 2):
                return False
        return True

    def walk(self, web, words, whole_text=False):
        blocks = [number_of(word, web[0]) for word in words]
        if None in blocks or len(blocks) > 400 or (whole_text and not blocks):
            return False
        rows = rows_of(web)
        return all(b in rows[a] for a, b in zip(blocks, blocks[1:]))


class TestTexts(Case):
    def test_written(self):
        self.gives("shelf 4\nlist 0 1 2\nring 1 3 2\nlist 3", shelf_text, SHELF)
        self.gives("shelf 200", shelf_text, (200, ()))
        self.gives("block 0 3\nblock 1\nblock 2", layout_text, (7, 5, 199, 7))
        self.gives("block 0", layout_text, (5,))
        self.gives("web 4\n0 to 1 3\n2 to 3", web_text, (4, ((3, 0), (1, 0), (2, 3), (0, 1))))
        self.gives("web 1", web_text, (1, ()))
        self.gives("web 40", web_text, (40, ()))
        self.gives("39 0 39", walk_text, (39, 0, 39))
        self.gives("7", walk_text, (7,))
        self.fails(InvalidWalk(1), walk_text, (7, 7))
        self.fails(InvalidWalk(-1), walk_text, ())
        self.fails(InvalidLayout(1), layout_text, (0, 200))

    def test_what_is_written_is_read(self):
        for web in all_webs(4):
            self.assertEqual(web, read_web(web_text(web)))
            for walk in walks_of(web, 3):
                self.assertEqual(walk, read_walk(web, walk_text(walk)))
        for layout in ((0,), (0, 1, 0, 2), (0, 0, 0), (0, 1, 2, 3, 0, 1, 2, 3)):
            for room in range(max(layout.count(block) for block in layout), 9):
                self.assertEqual(layout, read_layout((len(layout), ()), room, layout_text(layout)))
        for shelf in (SHELF, (200, ()), (200, (("list", (0,)),) * 200), (200, (("ring", tuple(range(200))),) * 9), (1, (("list", (0,)),))):
            self.assertEqual(shelf, read_shelf(shelf_text(shelf)))
        for web in (whole(40), line(40), ring(40), (40, ())):
            self.assertEqual(web, read_web(web_text(web)))
        self.assertEqual((0, 1) * 200, read_walk(line(40), walk_text((0, 1) * 200)))

    def test_read(self):
        self.gives(SHELF, read_shelf, "  shelf4 \nlist 0 1   2\n ring1 3 2 \nlist3 ")
        self.gives((3, (("ring", (2, 0, 1)),)), read_shelf, "shelf 3\nring 2 0 1")
        self.gives((0, 1, 0, 2), read_layout, (4, ()), 2, "block 3\nblock 2 0\nblock 1")
        self.gives((0, 0, 0, 0), read_layout, (4, ()), 4, "block3 2 0 1")
        self.gives((4, ((0, 1), (0, 3), (2, 3))), read_web, "web 4\n3 to 2 0 2\n0 to 1\n3to0\n1 to 0 0")
        self.gives((1, ()), read_web, "web 1")
        self.gives((0, 1, 0), read_walk, line(3), " 0 1 0 ")
        self.gives((2,), read_walk, (3, ()), "2")

    def test_wrong_words_told(self):
        for at, text in (
            (0, ""), (3, "   "), (5, "shelf"), (0, "shel 4"), (0, "shelfs 4"), (6, "shelf 0"), (6, "shelf 201"), (6, "shelf 04"),
            (8, "shelf 4 4"), (8, "shelf 4\n"), (8, "shelf 4\n\n"), (8, "shelf 2\nring"), (8, "shelf 4\nblock"), (12, "shelf 4\nlist"),
            (12, "shelf 4\nlist\n"), (13, "shelf 4\nlist 4"), (15, "shelf 4\nlist 1 1"), (16, "shelf 4\nring 0 1\nlist 0"),
            (16, "shelf 4\nring 0 1"), (18, "shelf 4\nring 0 1  "), (15, "shelf 4\nring 0 0 1"), (14, "shelf 4\nlist 0,1"),
            (13, "shelf 4\nlist 00"), (13, "shelf 4\nlist -1"), (1, " Shelf 4"), (7, "shelf 4x"),
            (6, "shelf " + "9" * 5000), (6, "shelf \u0663"), (5, "shelf\n4"), (5, "shelf\t4"),
        ):
            self.fails(InvalidText(at), read_shelf, text)
        chains = "shelf 1" + "\nlist 0" * 200
        self.assertEqual(200, len(read_shelf(chains)[1]))
        self.fails(InvalidText(len(chains)), read_shelf, chains + "\nlist 0")
        self.fails(InvalidText(len(chains)), read_shelf, chains + "\n")
        for at, text in (
            (0, ""), (5, "block"), (6, "block 4"), (10, "block 0 1 2"), (10, "block 0 1\n"), (9, "block 0 1"), (16, "block 0 1\nblock "),
            (15, "block 0 1\nblock\n2"), (8, "block 0 0"), (18, "block 0 1\nblock 2 2"), (19, "block 0 1\nblock 2 3\n"),
            (20, "block 0 1\nblock 2 3 0"), (19, "block 0 1\nblock 2 3\nblock 0"), (0, "\nblock 0 1"), (0, "blocks 0 1"),
            (16, "block 0 1\nblock 1"),
        ):
            self.fails(InvalidText(at), read_layout, (4, ()), 2, text)
        for at, text in (
            (0, ""), (3, "web"), (4, "web 0"), (4, "web 41"), (4, "web 040"), (5, "web 1\n"), (5, "web 1\n0"), (6, "web 2\n"), (6, "web 2\nto"),
            (6, "web 2\n2"), (7, "web 2\n0"), (8, "web 2\n0 1"), (10, "web 2\n0 to"), (10, "web 2\n0 to\n"), (11, "web 2\n0 to 0"),
            (13, "web 2\n0 to 1 0"), (13, "web 2\n0 to 1\n"), (6, "web 2 2"), (7, "web 2\n0\n"), (11, "web 2\n0 to 2"),
        ):
            self.fails(InvalidText(at), read_web, text)
        for at, text in ((0, ""), (2, "  "), (0, "3"), (2, "0 2"), (2, "0 0"), (2, "0 01"), (1, "0\n1"), (4, "0 1 3"), (3, "0 1\n"), (0, "x"), (1, "0,1")):
            self.fails(InvalidText(at), read_walk, line(3), text)
        self.fails(InvalidText(2), read_walk, (1, ()), "0 0")
        long = "0 1 " * 200
        self.assertEqual(400, len(read_walk(line(2), long)))
        self.fails(InvalidText(800), read_walk, line(2), long + "0")
        self.fails(InvalidText(800), read_walk, line(2), long + "x")

    def check(self, text, goes_on, is_one, read, *arguments):
        at = first_wrong(text, goes_on)
        if at is None and not is_one([word for _, word in words_by_eye(text)]):
            at = len(text)
        if at is None:
            read(*arguments, text)
        else:
            self.fails(InvalidText(at), read, *arguments, text)

    def check_all(self, text):
        grammar = Grammar()
        self.check(text, grammar.shelf, lambda words: grammar.shelf(words, True), read_shelf)
        self.check(text, grammar.web, lambda words: grammar.web(words, True), read_web)
        for cells, room in ((1, 1), (3, 2), (4, 8)):
            self.check(text, lambda words: grammar.layout(cells, room, words),
                       lambda words: grammar.layout(cells, room, words, True), read_layout, (cells, ()), room)
        for web in (line(3), (2, ())):
            self.check(text, lambda words: grammar.walk(web, words), lambda words: grammar.walk(web, words, True), read_walk, web)

    def test_short_texts_by_eye(self):
        for many in (0, 1, 2):
            for pieces in product(PIECES, repeat=many):
                self.check_all("".join(pieces))
        for pieces in product(PIECES, repeat=2):
            for begin in ("shelf 3\nlist 0", "shelf 2\n", "web 3\n1 to ", "web 3\n0 to 2\n", "block 0 ", "block 1 0\nblock ", "0 1 ", "web ", "shelf "):
                self.check_all(begin + " ".join(pieces))
                self.check_all(begin + "".join(pieces))

    def test_changed_texts_by_eye(self):
        texts = ("shelf 4\nlist 0 1 2\nring 1 3 2\nlist 3", "block 0 2\nblock 1", "web 4\n0 to 1 3\n2 to 3", "0 1 2 1 0", "block 3\nblock 2 0 1",
                 "block 0", "web 1", "shelf 1\nlist 0\nlist 0")
        for text in texts:
            self.check_all(text)
            for at in range(len(text) + 1):
                self.check_all(text[:at])
                for piece in PIECES:
                    self.check_all(text[:at] + piece + text[at:])
                    self.check_all(text[:at] + piece + text[at + 1:])

    def test_no_strings(self):
        for value in ANY:
            if not isinstance(value, str):
                for read, arguments in ((read_shelf, ()), (read_layout, (SHELF, 2)), (read_web, ()), (read_walk, (line(3),))):
                    self.fails(InvalidText(-1), read, *arguments, value)

    def test_order_of_errors(self):
        self.fails(InvalidShelf(-1), read_layout, 0, 0, 0)
        self.fails(InvalidRoom(-1), read_layout, SHELF, 0, 0)
        self.fails(InvalidWeb(-1), read_walk, 0, 0)


if __name__ == "__main__":
    unittest.main()
