"""Promise 42."""

import unittest
from itertools import combinations

from slowshelves.errors import InvalidSize, InvalidWeb
from slowshelves.forks import fork_holds, fork_ways, longest_common
from tests.support import ANY, Case, all_webs, bools_within, lists_within, parts_of, rows_of, unlike_webs


def whole(many):
    return many, tuple(combinations(range(many), 2))


def ring(many):
    return many, tuple(sorted([(block, block + 1) for block in range(many - 1)] + [(0, many - 1)]))


def ways_on(rows, way):
    """All ways without repeats that go on from this one, itself too."""
    yield way
    for block in rows[way[-1]]:
        if block not in way:
            yield from ways_on(rows, way + (block,))


def forks_of(web):
    """All forks of a web, by going through all ways without repeats."""
    rows = rows_of(web)
    for v in range(web[0]):
        ways = list(ways_on(rows, (v,)))
        for b in rows[v]:
            for a in rows[b] - {v}:
                to_a = [way for way in ways if way[-1] == a and b not in way]
                to_b = [way for way in ways if way[-1] == b and a not in way]
                for one in to_a:
                    for other in to_b:
                        for common in range(len(one)):
                            if one[:common + 1] == other[:common + 1]:
                                yield (a, b, v, one[1:common + 1], one[common + 1:], other[common + 1:])


def has_ring(web):
    return len(web[1]) > web[0] - len(parts_of(web))


class TestForks(Case):
    def test_all_small_webs(self):
        for web in [*all_webs(4), *unlike_webs(5)]:
            forks = list(forks_of(web))
            steps = {len(fork[3]) for fork in forks}
            self.assertEqual(max(steps, default=None), self.tell(longest_common, web))
            self.assertEqual(has_ring(web), bool(forks))
            self.assertTrue(all(many <= web[0] - 3 for many in steps))
            for ahead in range(7):
                fork = fork_ways(web, ahead)
                self.assertEqual(ahead in steps, fork is not None, (web, ahead))
                if fork is not None:
                    self.assertIn(fork, forks)
                    self.assertIs(True, fork_holds(web, ahead, fork))
            for fork in forks[::7]:
                for ahead in range(4):
                    self.assertIs(ahead == len(fork[3]), fork_holds(web, ahead, fork))

    def test_just_forks_hold(self):
        """All tuples of short rows over few blocks, with those that hold being just the forks."""
        for web in [whole(3), ring(4), whole(4), (4, ((0, 1), (0, 2), (1, 2), (2, 3)))]:
            rows = rows_of(web)
            told = [way for v in range(web[0]) for way in ways_on(rows, (v,))]
            forks = set(forks_of(web))
            pieces = [()] + [way for way in told if len(way) < 4]
            for a, b, v in [(0, 1, 2), (1, 0, 2), (2, 1, 0), (3, 2, 1), (0, 3, 2), (0, 0, 1)]:
                for to_a in pieces:
                    for to_b in pieces:
                        for common in ((), (3,), (2,)):
                            fork = (a, b, v, common, to_a, to_b)
                            self.assertIs(fork in forks, fork_holds(web, len(common), fork), (web, fork))

    def test_all_linked(self):
        for many in range(3, 9):
            self.gives(many - 3, longest_common, whole(many))
            for ahead in range(many + 1):
                fork = self.tell(fork_ways, whole(many), ahead)
                self.assertEqual(ahead > many - 3, fork is None)
                if fork is not None:
                    self.holds(fork_holds, whole(many), ahead, fork)
        self.gives(None, longest_common, whole(1))
        self.gives(None, longest_common, whole(2))

    def test_rings(self):
        for many in range(3, 9):
            self.gives(0, longest_common, ring(many))
            self.assertIsNone(fork_ways(ring(many), 1))
            self.holds(fork_holds, ring(many), 0, fork_ways(ring(many), 0))

    def test_forty_blocks_in_small_parts(self):
        links = tuple((a + first, b + first) for first in range(0, 40, 8) for a, b in whole(8)[1])
        self.gives(5, longest_common, (40, links))
        self.holds(fork_holds, (40, links), 5, self.tell(fork_ways, (40, links), 5))
        self.gives(None, fork_ways, (40, links), 40)
        self.gives(None, longest_common, (40, ()))
        links = tuple((a + 37, b + 37) for a, b in whole(3)[1])
        self.gives(0, longest_common, (40, links))

    def test_parts_of_more_than_eight(self):
        line = (9, tuple((at, at + 1) for at in range(8)))
        for web in (whole(9), line, ring(40)):
            self.fails(InvalidSize("blocks"), longest_common, web)
            self.fails(InvalidSize("blocks"), fork_ways, web, 0)
            self.fails(InvalidSize("ahead"), fork_ways, web, 41)
        self.fails(InvalidWeb(-1), fork_ways, (41, ()), 41)

    def test_holds_for_any_number_of_blocks(self):
        web = ring(40)
        fork = (0, 1, 2, (), tuple(range(3, 40)) + (0,), (1,))
        self.holds(fork_holds, web, 0, fork)
        self.fails_to_hold(fork_holds, web, 1, fork)
        web = whole(40)
        fork = (0, 1, 2, tuple(range(3, 40)), (0,), (1,))
        self.holds(fork_holds, web, 37, fork)
        self.fails_to_hold(fork_holds, web, 36, fork)
        self.fails_to_hold(fork_holds, web, 40, fork)
        self.fails(InvalidSize("ahead"), fork_holds, web, 41, fork)

    def test_one_thing_changed(self):
        web = (5, ((0, 1), (0, 4), (1, 2), (1, 4), (2, 3), (3, 4)))
        fork = (0, 1, 2, (3, 4), (0,), (1,))
        self.holds(fork_holds, web, 2, fork)
        for other in (
            (1, 0, 2, (3, 4), (1,), (0,)), (0, 1, 3, (3, 4), (0,), (1,)), (0, 1, 2, (3,), (4, 0), (4, 1)),
            (0, 1, 2, (4, 3), (0,), (1,)), (0, 1, 2, (3, 4), (1,), (0,)), (0, 1, 2, (3, 4), (1, 0), (1,)),
            (0, 1, 2, (3, 4), (0,), (0, 1)), (0, 1, 2, (3, 4), (), (1,)), (0, 1, 2, (3, 4), (0,), ()),
            (0, 1, 2, (3, 4), (0,), (1, 1)), (0, 1, 2, (3, 2), (0,), (1,)), (0, 1, 2, (3, 5), (0,), (1,)),
            (0, 1, 2, (3, -1), (0,), (1,)), (0, 0, 2, (3, 4), (0,), (1,)), (0, 1, 2, (3, 4), (0,)),
            (0, 1, 2, (3, 4), (0,), (1,), ()), (4, 1, 2, (3, 4), (0,), (1,)), (0, 1, 2, (3, 4), 0, 1),
        ):
            self.fails_to_hold(fork_holds, web, 2, other)
        for other in lists_within(fork) + bools_within(fork):
            self.fails_to_hold(fork_holds, web, 2, other)

    def test_other_values_do_not_hold(self):
        self.refuses_all(fork_holds, whole(4), 1)
        fork = fork_ways(whole(4), 0)
        for value in ANY:
            for at in range(6):
                if value != fork[at]:
                    other = fork[:at] + (value,) + fork[at + 1:]
                    expected = other in set(forks_of(whole(4))) if hashable(other) else False
                    self.assertIs(expected and plain(other), fork_holds(whole(4), 0, other), other)


def hashable(value):
    if isinstance(value, list):
        return False
    return all(hashable(item) for item in value) if isinstance(value, tuple) else True


def plain(value):
    """Whether there is no bool within, which would be found equal to a number."""
    if isinstance(value, tuple):
        return all(plain(item) for item in value)
    return not isinstance(value, bool)


if __name__ == "__main__":
    unittest.main()
