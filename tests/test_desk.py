"""Promises 50 and 51."""

import random
import unittest

from slowshelves.blocks import plain_layout
from slowshelves.calm import is_calm
from slowshelves.desk import Desk
from slowshelves.errors import (
    InvalidCommand, InvalidDeed, InvalidRoom, InvalidRooms, InvalidSize, InvalidTrack, Refused, ShelfError,
)
from slowshelves.house import House
from slowshelves.live import Live
from slowshelves.looks import look
from slowshelves.texts import layout_text, read_layout, read_shelf, read_walk, read_web, shelf_text, walk_text, web_text
from tests.support import ANY, Case, form, least_moves
from tests.wrongs import OBJECTS

BEGIN = "start 5 2 2 last used"
# For each word of one number or more: a command that is right behind the beginning.
GOOD = ("list 0 1 2 3 4", "ring 0 2 4", "lay 0 0 1 1 2", "strike 0", "cell", "move 0 3", "join 1 2", "calm", "room 3", "rooms 4",
        "rule first in", "go 4", "lift", "undo", "redo")
SHOWN = ("shelf", "layout", "web", "track", "walk", "memory", "moves", "boxes")
ASKED = ("calm", "laid", "beaten", "ahead", "loss", "share")


def desk_behind(*commands):
    desk = Desk()
    for command in commands:
        desk.say(command)
    return desk


def boxes_by_eye(live):
    cells, chains = live.house.shelf
    rows = list(chains)
    alone = [cell for cell in range(cells) if all(cell not in row for _, row in chains)]
    if alone:
        rows.append(("alone", alone))
    lines = []
    for word, row in rows:
        line = word
        for at, cell in enumerate(row):
            block = live.house.layout[cell]
            if at == 0 or live.house.layout[row[at - 1]] != block:
                line += " [" + str(cell)
            else:
                line += " " + str(cell)
            if at == len(row) - 1 or live.house.layout[row[at + 1]] != block:
                line += "]*" if block in live.memory else "]"
        lines.append(line)
    return "\n".join(lines)


class TestDesk(Case):
    def says(self, answer, desk, command):
        self.assertEqual(answer, desk.say(command), command)

    def fails_there(self, error, desk, command):
        before = form(desk)
        self.fails(error, desk.say, command)
        self.assertEqual(before, form(desk), command)

    def test_told(self):
        desk = Desk()
        self.assertIsNone(desk.live)
        for line in (BEGIN, "list 0 1 2 3 4", "go 1", "go 2", "go 3", "go 4"):
            self.says("done", desk, line)
        self.assertIsInstance(desk.live, Live)
        self.says("list [0 1] [2 3]* [4]*", desk, "boxes")
        self.says("3 3", desk, "moves")
        self.says("yes", desk, "ask calm")
        self.says("1 of 3", desk, "ask share")
        self.says("none", desk, "ask beaten")
        self.says("0", desk, "ask ahead")
        self.says("0", desk, "ask loss")
        self.says("1 2 3 4", desk, "track")
        self.says("0 1 2", desk, "walk")
        self.says("1 2", desk, "memory")
        self.says("shelf 5\nlist 0 1 2 3 4", desk, "shelf")
        self.says("block 0 1\nblock 2 3\nblock 4", desk, "layout")
        self.says("web 3\n0 to 1\n1 to 2", desk, "web")
        self.says("done", desk, "lift")
        for word in ("track", "walk", "memory"):
            self.says("none", desk, word)
        self.says("0 0", desk, "moves")
        self.says("list [0 1] [2 3] [4]", desk, "boxes")
        self.assertEqual("0 1 2", desk_behind(BEGIN, "list 0 1 2 3 4", "go 1", "go 2", "go 3", "go 4").say(command="walk"))

    def test_a_ring(self):
        desk = desk_behind("start 4 1 2 last used", "ring 0 1 2 3")
        self.says("no", desk, "ask calm")
        self.says("endless", desk, "ask loss")
        self.says("1", desk, "ask ahead")
        for cell in (0, 1, 2, 3, 0):
            desk.say(f"go {cell}")
        self.says("5 4", desk, "moves")
        self.says("ring [0]* [1] [2] [3]*", desk, "boxes")
        walk = desk.say("ask beaten")
        self.assertEqual(look(desk.live.house, "beaten")[1][0], read_walk(desk.live.house.web, walk))
        self.says("none", desk, "ask laid")
        self.fails_there(Refused(-1), desk, "calm")
        self.says("done", desk, "room 2")
        laid = desk.say("ask laid")
        self.assertTrue(is_calm((2, ((0, 1),)), 2) and read_layout(desk.live.house.shelf, 2, laid))
        self.says("done", desk, "calm")
        self.says("yes", desk, "ask calm")
        moves = desk.say("moves").split(" ")
        self.assertEqual(moves[0], moves[1])
        self.says("done", desk, "undo")
        self.says("no", desk, "ask calm")
        self.says("done", desk, "rooms 3")
        self.says("done", desk, "lay 0 1 2 3")
        self.says("none", desk, "ask ahead")

    def test_boxes(self):
        desk = desk_behind("start 6 2 2 first in", "lay 0 1 1 0 2 2", "ring 0 1 3", "list 2", "list 3 0 1")
        self.says("ring [0] [1] [3]\nlist [2]\nlist [3 0] [1]\nalone [4 5]", desk, "boxes")
        desk.say("go 4")
        desk.say("go 5")
        self.says("ring [0] [1] [3]\nlist [2]\nlist [3 0] [1]\nalone [4 5]*", desk, "boxes")
        desk.say("ring 3 1 0")
        self.says("ring [0] [1] [3]\nlist [2]\nlist [3 0] [1]\nring [3] [1] [0]\nalone [4 5]*", desk, "boxes")
        self.says("done", desk, "list 4 5")
        self.assertNotIn("alone", desk.say("boxes"))
        desk = desk_behind("start 4 2 1 first in", "lay 0 1 1 0", "list 1")
        self.says("list [1]\nalone [0] [2] [3]", desk, "boxes")
        desk = desk_behind("start 3 3 1 first in")
        self.says("alone [0 1 2]", desk, "boxes")
        desk.say("go 1")
        self.says("alone [0 1 2]*", desk, "boxes")

    def test_before_the_first_start(self):
        desk = Desk()
        for command in GOOD + SHOWN + tuple(f"ask {word}" for word in ASKED) + ("", "start", "nothing", "go 99"):
            self.fails_there(InvalidCommand(), desk, command)
        for command, error in (("start 0 1 1 last used", InvalidSize("cells")), ("start 201 9 9 last used", InvalidSize("cells")), ("start 5 9 9 last used", InvalidRoom(-1)),
                               ("start 5 0 1 first in", InvalidRoom(-1)), ("start 5 2 6 last used", InvalidRooms(-1)), ("start 200 4 0 last used", InvalidRooms(-1)),
                               ("start 200 4 5 last used", InvalidSize("blocks")), ("start 41 1 5 last used", InvalidSize("blocks")),
                               ("start 5 2 2 last", InvalidCommand()), ("start 0 0 0 lastused", InvalidCommand())):
            self.fails_there(error, desk, command)
        self.assertIsNone(desk.live)

    def test_starts(self):
        desk = Desk()
        for cells, room, rooms, rule in ((1, 1, 1, "last used"), (200, 5, 5, "first in"), (40, 1, 2, "last used"), (7, 3, 4, "first in")):
            self.says("done", desk, f"start {cells} {room} {rooms} {rule}")
            house = House((cells, ()), room, [cell // room for cell in range(cells)], rooms, rule)
            self.assertTrue(desk.live.house == house)
            self.assertEqual((), desk.live.track)
            self.fails_there(Refused(-1), desk, "undo")
            desk.say("go 0")

    def test_refused_starts_leave_what_is_there(self):
        desk = desk_behind(BEGIN, "list 0 1", "go 0")
        for command in ("start 0 1 1 last used", "start 5 9 1 last used", "start 5 2 0 last used", "start 200 1 1 last used", "start 5 2 2 last used ", "start 5 2 2"):
            before = form(desk)
            self.assertRaises(ShelfError, desk.say, command)
            self.assertEqual(before, form(desk))

    def test_deeds(self):
        desk, live = desk_behind(BEGIN), Live(House((5, ()), 2, (0, 0, 1, 1, 2), 2, "last used"))
        for command, call, told in (
                ("list 0 1 2 3 4", live.do, ("chain", "list", (0, 1, 2, 3, 4))), ("ring 0 4 2", live.do, ("chain", "ring", (0, 4, 2))),
                ("go 0", live.go, 0), ("go 4", live.go, 4), ("go 3", live.go, 3), ("lay 9 9 7 199 199", live.do, ("lay", (9, 9, 7, 199, 199))),
                ("cell", live.do, ("cell",)), ("move 5 0", live.do, ("move", 5, 0)), ("room 4", live.do, ("room", 4)), ("move 5 0", live.do, ("move", 5, 0)),
                ("join 2 1", live.do, ("join", 2, 1)), ("rooms 1", live.do, ("rooms", 1)), ("rule first in", live.do, ("rule", "first in")),
                ("strike 1", live.do, ("strike", 1)), ("lift", live.lift, None), ("strike 1", live.do, ("strike", 1)), ("calm", live.do, ("calm",)),
                ("undo", live.undo, None), ("undo", live.undo, None), ("redo", live.redo, None), ("rule last used", live.do, ("rule", "last used")),
                ("redo", live.redo, None), ("move 0 3", live.do, ("move", 0, 3))):
            try:
                call(*([] if told is None else [told]))
            except ShelfError as error:
                self.fails_there(error, desk, command)
            else:
                self.says("done", desk, command)
            self.assertEqual(form(live), form(desk.live))

    def test_forms(self):
        """Strings that are near to a command, but none."""
        desk = desk_behind(BEGIN, "list 0 1 2 3 4", "go 0", "go 1", "lift", "undo")
        good = GOOD + SHOWN + tuple(f"ask {word}" for word in ASKED) + (BEGIN,)
        near = ["", " ", "\n", "nothing", "say", "ask", "ask ", "ask quotient", "ask walked", "ask nothing", "ask calm laid", "asks calm", "ask  calm"]
        near += ["list", "ring", "lay", "go", "move", "move 1", "strike", "join 1", "room", "rooms", "rule", "rule last", "rule used last", "rule first", "start"]
        near += ["rule lastused", "rule Last used", "rule 0", "rule last used used", "start 5 2 last used", "start 5 2 2 2 last used", "start 5 2 2"]
        near += ["cell 0", "calm 0", "lift 0", "undo 1", "redo 1", "shelf 0", "boxes 1", "go 0 1", "strike 0 0", "move 0 1 2", "join 0 1 2", "room 2 2", "rooms 2 2"]
        for command in good:
            near += [command + " ", " " + command, command + "\n", "\n" + command, command.upper(), command + " x", command + " -1", command[1:], "\t" + command]
            near += [command.replace(" ", "  ", 1), command.replace(" ", "\t", 1), command.replace(" ", "\n", 1)] if " " in command else []
            near += [command.replace(" ", "")] if " " in command else []
            for wrong in ("00", "01", "10000", "00001", "-1", "+1", "1.0", "x", "0x1", "1_0", "", "\u0661", "\u00b2", "1e1", "one", "None", "True"):
                words = command.split(" ")
                near += [" ".join(words[:at] + [wrong] + words[at + 1:]) for at in range(1, len(words)) if words[at].isdigit()]
        for command in near:
            if command not in good:
                self.fails_there(InvalidCommand(), desk, command)
        for value in ANY + OBJECTS + (b"cell", ["cell"], ("cell",), 3):
            if not isinstance(value, str) or value not in good:
                self.fails_there(InvalidCommand(), desk, value)
        for command in good:
            try:
                desk.say(command)
            except ShelfError as error:
                self.assertNotIsInstance(error, InvalidCommand, command)

    def test_errors_of_what_is_done(self):
        desk = desk_behind(BEGIN, "list 0 1 2 3 4", "go 0")
        for command, error in (
                ("list 5", InvalidDeed(-1)), ("list 0 0", InvalidDeed(-1)), ("ring 0 1", InvalidDeed(-1)), ("lay 0", InvalidDeed(-1)), ("lay 0 0 1 1 200", InvalidDeed(-1)),
                ("lay 0 0 0 1 1", Refused(-1)), ("strike 1", InvalidDeed(-1)), ("strike 9999", InvalidDeed(-1)), ("move 5 0", InvalidDeed(-1)), ("move 0 4", InvalidDeed(-1)),
                ("move 0 1", Refused(-1)), ("join 0 0", InvalidDeed(-1)), ("join 0 1", Refused(-1)), ("join 0 3", InvalidDeed(-1)), ("room 0", InvalidDeed(-1)), ("room 9", InvalidDeed(-1)),
                ("room 1", Refused(-1)), ("rooms 0", InvalidDeed(-1)), ("rooms 6", InvalidDeed(-1)), ("go 5", InvalidTrack(-1)), ("go 2", InvalidTrack(-1)), ("go 9999", InvalidTrack(-1)),
                ("redo", Refused(-1)), ("list 0 10000", InvalidCommand())):
            self.fails_there(error, desk, command)
        desk = desk_behind("start 5 2 2 last used")
        self.fails_there(Refused(-1), desk, "undo")
        self.fails_there(Refused(-1), desk, "ask share")
        self.says("none", desk, "ask beaten")
        grid = desk_behind("start 16 1 3 last used", *[f"list {' '.join(str(4 * row + at) for at in range(4))}" for row in range(4)],
                           *[f"list {' '.join(str(4 * row + at) for row in range(4))}" for at in range(4)])
        self.fails_there(InvalidSize("cells"), grid, "ask laid")
        self.fails_there(InvalidSize("cells"), grid, "calm")
        self.fails_there(InvalidSize("standings"), grid, "ask loss")
        self.says("no", grid, "ask calm")
        self.says("none", grid, "ask ahead")

    def commands(self, luck, cells, blocks):
        cell, block = luck.randrange(cells + 1), luck.randrange(blocks + 1)
        some = " ".join(str(number) for number in luck.sample(range(cells), luck.randint(1, cells)))
        return luck.choice([
            f"go {cell}", f"go {cell}", f"go {luck.randrange(cells)}", f"go {luck.randrange(cells)}", f"list {some}", f"ring {some}", f"strike {luck.randrange(3)}",
            "cell" if cells < 7 else "lift", f"move {cell} {block}", f"join {block} {luck.randrange(blocks)}", "calm", f"room {luck.randint(1, 4)}", f"rooms {luck.randint(1, 4)}",
            f"rule {luck.choice(('last used', 'first in'))}", "undo", "undo", "redo", "lift", "lay " + " ".join(str(luck.randrange(3)) for _ in range(cells)), f"start {luck.randint(1, 6)} 2 2 first in",
        ])

    def test_sessions(self):
        luck = random.Random(1)
        for _ in range(20):
            desk = desk_behind(f"start {luck.randint(2, 6)} {luck.randint(1, 3)} {luck.randint(1, 3)} last used")
            for _ in range(150):
                house = desk.live.house
                command = self.commands(luck, house.shelf[0], house.web[0])
                before = form(desk)
                try:
                    self.says("done", desk, command)
                except ShelfError as error:
                    self.assertNotIsInstance(error, InvalidCommand)
                    self.assertEqual(before, form(desk))
                self.show(desk)
            for word in ASKED:
                self.ask(desk, word)

    def show(self, desk):
        before, live = form(desk), desk.live
        house = live.house
        self.assertEqual((shelf_text(house.shelf), layout_text(house.layout), web_text(house.web)), tuple(desk.say(word) for word in SHOWN[:3]))
        self.assertEqual((house.shelf, house.layout, house.web),
                         (read_shelf(desk.say("shelf")), read_layout(house.shelf, house.room, desk.say("layout")), read_web(desk.say("web"))))
        rows = (live.track, live.walk, live.memory)
        self.assertEqual([" ".join(str(number) for number in row) or "none" for row in rows], [desk.say(word) for word in ("track", "walk", "memory")])
        self.says(f"{live.moves} {least_moves(live.walk, house.rooms)}", desk, "moves")
        self.says(boxes_by_eye(live), desk, "boxes")
        self.assertEqual(before, form(desk))

    def ask(self, desk, word):
        before, house = form(desk), desk.live.house
        calm = is_calm(house.web, house.rooms)
        try:
            told = desk.say(f"ask {word}")
        except ShelfError as error:
            self.fails(error, look, house, word)
            self.assertEqual("share", word)
        else:
            answer = None if word == "beaten" and calm else look(house, word)[1]
            if word == "calm":
                self.assertEqual("yes" if calm else "no", told)
            elif word == "laid":
                self.assertEqual(layout_text(answer[1]) if answer[0] == "laid" else "none", told)
            elif word == "beaten":
                self.assertEqual("none" if calm else walk_text(answer[0]), told)
            elif word == "ahead":
                self.assertEqual("none" if answer is None else str(answer), told)
            elif word == "loss":
                self.assertEqual("endless" if answer[0] == "endless" else str(answer[1]), told)
            else:
                self.assertEqual(f"{answer[0]} of {answer[1]}", told)
        self.assertEqual(before, form(desk))

    def test_asked_behind_each_command(self):
        luck = random.Random(2)
        desk = desk_behind("start 4 2 2 last used", "ring 0 1 2 3")
        for _ in range(100):
            house = desk.live.house
            try:
                desk.say(self.commands(luck, house.shelf[0], house.web[0]))
            except ShelfError:
                pass
            for word in ASKED:
                self.ask(desk, word)

    def test_great_houses(self):
        desk = desk_behind("start 200 5 5 last used", "calm")
        self.assertTrue(is_calm(desk.live.house.web, 5))
        desk.say("list " + " ".join(str(cell) for cell in range(40)))
        for cell in range(40):
            desk.say(f"go {cell}")
        self.says("8 8", desk, "moves")
        self.says("yes", desk, "ask calm")
        self.assertEqual(plain_layout([cell // 5 for cell in range(200)]), desk.live.house.layout)
        self.fails_there(Refused(-1), desk, "cell")
        self.show(desk)

    def test_two_desks_do_not_meet(self):
        one, other = desk_behind(BEGIN), desk_behind(BEGIN)
        one.say("list 0 1")
        self.says("shelf 5", other, "shelf")

    def test_no_length_and_nothing_to_go_through(self):
        desk = Desk()
        self.assertRaises(TypeError, iter, desk)
        self.assertRaises(TypeError, len, desk)
        self.assertIn("say", vars(Desk))
        self.assertEqual({"live": None}, vars(desk))


if __name__ == "__main__":
    unittest.main()
