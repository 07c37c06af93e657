"""Promise 4."""

import unittest

from slowshelves import errors
from slowshelves.errors import InvalidCommand, InvalidEdit, InvalidSize, ShelfError
from tests.support import ANY

AT_NAMES = """InvalidText InvalidShelf InvalidRoom InvalidLayout InvalidWeb InvalidRooms InvalidWalk InvalidTrack
InvalidFold InvalidBlock InvalidCell InvalidOut InvalidRun InvalidGaps InvalidPrices InvalidWeights InvalidWrites
InvalidLot InvalidRule InvalidWeave InvalidDeed InvalidIndex InvalidBegins InvalidRows InvalidOrder InvalidLists
InvalidLengths InvalidPaper InvalidAnswers InvalidHouse Refused""".split()
ALL_NAMES = AT_NAMES + ["InvalidSize", "InvalidCommand", "InvalidEdit"]


class TestErrors(unittest.TestCase):
    def test_all_are_direct_subclasses(self):
        self.assertEqual((Exception,), ShelfError.__bases__)
        for name in ALL_NAMES:
            self.assertEqual((ShelfError,), getattr(errors, name).__bases__, name)
            self.assertEqual("slowshelves.errors", getattr(errors, name).__module__)

    def test_there_are_no_others(self):
        found = [name for name, worth in vars(errors).items() if isinstance(worth, type)]
        self.assertEqual(sorted(ALL_NAMES + ["ShelfError"]), sorted(found))

    def test_at_is_kept_itself(self):
        for name in AT_NAMES:
            for worth in ANY:
                error = getattr(errors, name)
                self.assertIs(worth, error(worth).at)
                self.assertIs(worth, error(at=worth).at)
            self.assertRaises(TypeError, error)

    def test_a_list_stays_the_same_list(self):
        rows = [1]
        error = errors.InvalidShelf(rows)
        rows.append(2)
        self.assertEqual([1, 2], error.at)

    def test_word_is_kept_itself(self):
        for worth in ANY:
            self.assertIs(worth, InvalidSize(worth).word)
            self.assertIs(worth, InvalidSize(word=worth).word)

    def test_two_take_nothing(self):
        for error in (InvalidCommand, InvalidEdit):
            self.assertEqual({}, vars(error()))
            self.assertRaises(TypeError, error, 1)

    def test_they_are_raised_and_caught_alone(self):
        for name in AT_NAMES:
            for other in ALL_NAMES:
                raised = getattr(errors, name)(5)
                self.assertEqual(name == other, isinstance(raised, getattr(errors, other)))
            with self.assertRaises(ShelfError) as caught:
                raise getattr(errors, name)(at=7)
            self.assertEqual(7, caught.exception.at)


if __name__ == "__main__":
    unittest.main()
