"""A desk at which a live house is spoken to, one line at a time."""

from slowshelves.blocks import run_layout
from slowshelves.calm import is_calm
from slowshelves.errors import InvalidCommand
from slowshelves.house import House
from slowshelves.live import Live
from slowshelves.looks import look
from slowshelves.texts import BLANK, FIGURES, NEWLINE, layout_text, shelf_text, walk_text, web_text
from slowshelves.turns import FIRST_IN, LAST_USED

DONE = "done"
NONE = "none"
MOST_FIGURES = 4
START_NUMBERS = 3
# How many numbers each of these deeds tells.
DEED_NUMBERS = {"strike": 1, "cell": 0, "move": 2, "join": 2, "calm": 0, "room": 1, "rooms": 1}
SHOWN = ("shelf", "layout", "web", "track", "walk", "memory", "moves", "boxes")
ASKED = ("calm", "laid", "beaten", "ahead", "loss", "share")


class Desk:
    """A live house that is changed, walked, shown and asked by what is said."""

    def __init__(self):
        self.live = None

    def say(self, command):
        """Does what the command says; what is shown then."""
        kind, *told = _words(command)
        if kind == "start":
            self.live = _started(told)
            return DONE
        if self.live is None:
            raise InvalidCommand()
        if kind == "ask":
            return _asked(self.live.house, told)
        if kind in SHOWN and not told:
            return _shown(self.live, kind)
        self._do(kind, told)
        return DONE

    def _do(self, kind, told):
        if kind == "go":
            self.live.go(_numbers(told, 1)[0])
        elif kind == "lift" and not told:
            self.live.lift()
        elif kind == "undo" and not told:
            self.live.undo()
        elif kind == "redo" and not told:
            self.live.redo()
        else:
            self.live.do(_deed(kind, told))


def _words(command):
    if not isinstance(command, str):
        raise InvalidCommand()
    # Where there are two blanks there is an empty word, which stands in no command.
    return command.split(BLANK)


def _number(word):
    is_told = 1 <= len(word) <= MOST_FIGURES and all([sign in FIGURES for sign in word])
    if not is_told or (word[0] == "0" and word != "0"):
        raise InvalidCommand()
    return int(word)


def _numbers(words, many):
    """The numbers that the words tell, so many of them."""
    if len(words) != many:
        raise InvalidCommand()
    return tuple([_number(word) for word in words])


def _row(words):
    """The numbers that the words tell, one or more."""
    return _numbers(words, max(len(words), 1))


def _rule(words):
    rule = BLANK.join(words)
    if rule not in (LAST_USED, FIRST_IN):
        raise InvalidCommand()
    return rule


def _started(told):
    """A live house of so many cells, laid in runs."""
    cells, room, rooms = _numbers(told[:START_NUMBERS], START_NUMBERS)
    rule = _rule(told[START_NUMBERS:])
    layout = run_layout(cells, room)
    return Live(House((cells, ()), room, layout, rooms, rule))


def _deed(kind, told):
    if kind in ("list", "ring"):
        return "chain", kind, _row(told)
    if kind == "lay":
        return kind, _row(told)
    if kind == "rule":
        return kind, _rule(told)
    if kind not in DEED_NUMBERS:
        raise InvalidCommand()
    numbers = _numbers(told, DEED_NUMBERS[kind])
    return (kind, *numbers)


def _shown(live, word):
    house = live.house
    if word == "shelf":
        return shelf_text(house.shelf)
    if word == "layout":
        return layout_text(house.layout)
    if word == "web":
        return web_text(house.web)
    if word == "track":
        return _row_text(live.track)
    if word == "walk":
        return _row_text(live.walk)
    if word == "memory":
        return _row_text(live.memory)
    if word == "moves":
        return _row_text((live.moves, live.least))
    return _boxes_text(house, live.memory)


def _row_text(numbers):
    return BLANK.join([str(number) for number in numbers]) if numbers else NONE


def _boxes_text(house, memory):
    """A line for each chain, its cells in boxes, and one for the cells that stand in none."""
    cells, chains = house.shelf
    chained = {cell: True for _, row in chains for cell in row}
    alone = [cell for cell in range(cells) if cell not in chained]
    rows = list(chains)
    if alone:
        rows.append(("alone", alone))
    return NEWLINE.join([BLANK.join([word] + _boxes(house.layout, memory, row)) for word, row in rows])


def _boxes(layout, memory, row):
    """Neighbours in one block stand in one box; a star tells that the block is in the memory."""
    boxes = []
    for cell in row:
        if boxes and layout[boxes[-1][-1]] == layout[cell]:
            boxes[-1].append(cell)
        else:
            boxes.append([cell])
    return [f"[{_row_text(box)}]" + ("*" if layout[box[0]] in memory else "") for box in boxes]


def _asked(house, told):
    if len(told) != 1 or told[0] not in ASKED:
        raise InvalidCommand()
    word = told[0]
    if word == "beaten" and is_calm(house.web, house.rooms):
        return NONE
    return _answer_text(word, look(house, word)[1])


def _answer_text(word, answer):
    if word == "calm":
        return "yes" if answer[0] == "calm" else "no"
    if word == "laid":
        return layout_text(answer[1]) if answer[0] == "laid" else NONE
    if word == "beaten":
        return walk_text(answer[0])
    if word == "ahead":
        return NONE if answer is None else str(answer)
    if word == "loss":
        return str(answer[1]) if answer[0] == "most" else "endless"
    return f"{answer[0]} of {answer[1]}"
