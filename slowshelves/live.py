"""Live houses: they are changed and walked, and what was done can be undone."""

from slowshelves.common import is_below, is_sequence
from slowshelves.errors import InvalidCommand, InvalidTrack, Refused, ShelfError
from slowshelves.house import deed_done, need_house
from slowshelves.looks import MOST_WALKED_CELLS, is_look_word, look, walked
from slowshelves.rules import rule_run
from slowshelves.shelves import linked_cells
from slowshelves.tracks import need_track


class Live:
    """A house, and a track on it; what was done ahead can be undone, and done again."""

    def __init__(self, house):
        self.house = need_house(house)
        self.track = ()
        self.walk = ()
        self.memory = ()
        self.moves = 0
        self.least = 0
        # Pairs (house, track): those that undo and redo lead to, the next one last.
        self._elder = ()
        self._undone = ()

    def go(self, cell):
        """The track goes on to the cell."""
        if not is_below(cell, self.house.shelf[0]) or not self._is_near(cell):
            raise InvalidTrack(-1)
        if len(self.track) == MOST_WALKED_CELLS:
            raise Refused(-1)
        self._come_to(self.house, self.track + (cell,))

    def do(self, deed):
        """The deed is done, and the track walked anew."""
        house = deed_done(self.house, deed)
        if self.track:
            _need_track_of(house, self.track)
        self._come_to(house, self.track)

    def lift(self):
        """The track has no cells again."""
        self._come_to(self.house, ())

    def undo(self):
        """What was done last is taken back."""
        if not self._elder:
            raise Refused(-1)
        self._undone = self._undone + ((self.house, self.track),)
        house, track = self._elder[-1]
        self._elder = self._elder[:-1]
        self._stand(house, track)

    def redo(self):
        """What was taken back last is done again."""
        if not self._undone:
            raise Refused(-1)
        self._elder = self._elder + ((self.house, self.track),)
        house, track = self._undone[-1]
        self._undone = self._undone[:-1]
        self._stand(house, track)

    def sheet(self, words):
        """What is told of the track, if it has cells, and for each word what is told, or None."""
        if not is_sequence(words) or not all([is_look_word(word) for word in words]):
            raise InvalidCommand()
        rows = [walked(self.house, self.track)] if self.track else []
        return tuple(rows + [_look_or_none(self.house, word) for word in words])

    def _is_near(self, cell):
        """Whether the track can go on to this cell."""
        if not self.track:
            return True
        layout = self.house.layout
        return cell in linked_cells(self.house.shelf)[self.track[-1]] or layout[cell] == layout[self.track[-1]]

    def _come_to(self, house, track):
        """Something new is done."""
        self._elder = self._elder + ((self.house, self.track),)
        self._undone = ()
        self._stand(house, track)

    def _stand(self, house, track):
        """All that is told of the house and the track, as if both were made anew."""
        self.house = house
        self.track = track
        self.walk, self.moves, self.least = walked(house, track)[2:] if track else ((), 0, 0)
        self.memory = rule_run(house.rooms, house.rule, self.walk)[-1][2] if track else ()


def _need_track_of(house, track):
    try:
        need_track(house.shelf, house.layout, track)
    except InvalidTrack:
        raise Refused(-1) from None


def _look_or_none(house, word):
    try:
        return look(house, word)
    except ShelfError:
        return word, None
