"""What is told of a house, and whether it holds."""

from slowshelves.ahead import ahead_needed
from slowshelves.calm import calm_holds, calm_paper
from slowshelves.common import is_exactly, is_sequence
from slowshelves.endless import beaten_holds, beaten_walk
from slowshelves.errors import InvalidCommand, InvalidTrack, ShelfError
from slowshelves.hindsight import fewest_moves
from slowshelves.house import need_house
from slowshelves.levels import laid_holds, laid_paper
from slowshelves.loss import loss_holds, loss_paper, quotient_holds, quotient_paper
from slowshelves.rules import rule_moves
from slowshelves.shares import share_holds, share_paper
from slowshelves.tracks import need_track, track_walk

WALKED = "walked"
WORDS = ("calm", "laid", "beaten", "loss", "quotient", "ahead", "share")
MOST_WALKED_CELLS = 400


def walked(house, track):
    """What a track comes to: its walk, the rule's moves and those of hindsight."""
    need_house(house)
    if is_sequence(track) and len(track) > MOST_WALKED_CELLS:
        raise InvalidTrack(-1)
    track = need_track(house.shelf, house.layout, track)
    walk = track_walk(house.layout, track)
    moves = rule_moves(house.rooms, house.rule, walk)
    return WALKED, track, walk, moves, fewest_moves(walk, (house.rooms,) * len(walk))


def is_look_word(value):
    """Whether any value is a word that can be asked."""
    return isinstance(value, str) and value in WORDS


def look(house, word):
    """(word, answer): what the word asks of the house."""
    need_house(house)
    if not is_look_word(word):
        raise InvalidCommand()
    return word, _answer(house, word)


def _answer(house, word):
    web, rooms, rule = house.web, house.rooms, house.rule
    if word == "calm":
        return calm_paper(web, rooms)
    if word == "laid":
        return laid_paper(house.shelf, house.room, rooms)
    if word == "beaten":
        return beaten_walk(web, rooms, rule, 1)
    if word == "loss":
        return loss_paper(web, rooms, rooms, rule)
    if word == "quotient":
        return quotient_paper(web, rooms, rooms, rule)
    if word == "ahead":
        return ahead_needed(web, rooms)
    return share_paper(house.shelf, house.layout, rooms)


def look_holds(house, value):
    """Whether any value is what can be told of the house."""
    need_house(house)
    if not isinstance(value, tuple) or len(value) not in (2, 5):
        return False
    try:
        if len(value) == 5:
            return value[0] == WALKED and is_exactly(value, walked(house, value[1]))
        return is_look_word(value[0]) and _answer_holds(house, value[0], value[1])
    except ShelfError:
        return False


def _answer_holds(house, word, answer):
    web, rooms, rule = house.web, house.rooms, house.rule
    if word == "calm":
        return calm_holds(web, rooms, answer)
    if word == "laid":
        return laid_holds(house.shelf, house.room, rooms, answer)
    if word == "beaten":
        return beaten_holds(web, rooms, rule, 1, answer)
    if word == "loss":
        return loss_holds(web, rooms, rooms, rule, answer)
    if word == "quotient":
        return quotient_holds(web, rooms, rooms, rule, answer)
    if word == "ahead":
        return is_exactly(answer, ahead_needed(web, rooms))
    return share_holds(house.shelf, house.layout, rooms, answer)
