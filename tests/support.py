"""What the tests share: calls in all forms, wrong values of every kind, small webs."""

import copy
import inspect
import unittest
from itertools import combinations, permutations, product

from slowshelves.errors import InvalidEdit, InvalidShelf, ShelfError
from slowshelves.house import House


def nested(depth, worth):
    for _ in range(depth):
        worth = [worth]
    return worth


SOMETHING = InvalidShelf(3)
NO_NUMBER = (None, True, False, -1, -2, "", "0", "list", "calm", (), (0,), (1, 2), [], [0], [[0], 0], nested(12, 1),
             InvalidEdit(), SOMETHING, ShelfError())
NO_SEQUENCE = (None, True, False, 0, 1, -1, 3, 10 ** 30, "", "ab", "list", "01", InvalidEdit(), SOMETHING)
ANY = (None, True, False, 0, 1, -1, 2, 10 ** 30, "", "a", "calm", "fork", "ring", "walk", "all", (), (0,), (0, 1), (1, 0),
       ("calm",), ("calm", ()), ("calm", []), ["calm", ()], ("fork", ()), ("ring", ()), ("walk", ()), ("all", ()),
       ("calm", None), ("fork", 3), ("walk", "01"), ("all", 0), ("all", (0,)), ("all", ((),)), ((), ()), ((), (), ()),
       (True, (), ()), (0, (), ()), (0, 1, 2), (0, 1, 2, 3, 4, 5), (0, 1, 2, (), (0,), (1,)), ("walk", (0, "1")),
       ("walk", (True,)), ("walk", (0, True)), ("walk", (0, [1])), [], [0, 1], ["walk", [0, 1]], nested(12, 0),
       ("calm", (nested(10, 0),)), InvalidEdit(), SOMETHING, (SOMETHING, SOMETHING), ("ring", (SOMETHING,)))


def in_tuples(value):
    if isinstance(value, (list, tuple)):
        return tuple([in_tuples(item) for item in value])
    return value


def in_lists(value):
    if isinstance(value, (list, tuple)):
        return [in_lists(item) for item in value]
    return value


def parameter_names(function):
    return [name for name in inspect.signature(function).parameters if name != "self"]


def is_told(value):
    """Whether a returned value is of tuples, integers, strings, None, bools and houses of such throughout."""
    if type(value) is tuple:
        return all(is_told(item) for item in value)
    if type(value) is House:
        return all(is_told(item) for item in vars(value).values())
    return value is None or type(value) in (int, str, bool)


def form(value):
    """What any value is made of, told so that values of unlike kinds are told unlike."""
    if isinstance(value, (list, tuple)):
        return (type(value).__name__, [form(item) for item in value])
    if hasattr(value, "__dict__") and not isinstance(value, Exception):
        return (type(value).__name__, {name: form(item) for name, item in vars(value).items()})
    return repr(value)


class Case(unittest.TestCase):
    def tell(self, function, *arguments, paper=False):
        """The answer, the same in all forms of the call; with paper the last argument stays as it is."""
        told = None
        for turn in (in_tuples, in_lists, lambda worth: worth):
            row = [turn(argument) for argument in arguments]
            if paper:
                row[-1] = arguments[-1]
            before = copy.deepcopy(row)
            answers = [function(*row), function(**dict(zip(parameter_names(function), row)))]
            self.assertEqual(form(before), form(row))
            for answer in answers:
                self.assertTrue(is_told(answer), (function.__name__, arguments, answer))
                if told is None:
                    told = [answer]
                self.assertEqual(form(told[0]), form(answer), (function.__name__, arguments))
        return told[0]

    def gives(self, answer, function, *arguments, paper=False):
        told = self.tell(function, *arguments, paper=paper)
        self.assertEqual(form(answer), form(told), (function.__name__, arguments))

    def fails(self, error, function, *arguments):
        before = form(arguments)
        try:
            told = function(*arguments)
        except ShelfError as wrong:
            self.assertIs(type(error), type(wrong), (function.__name__, arguments, wrong))
            self.assertEqual(form(vars(error)), form(vars(wrong)), (function.__name__, arguments))
            self.assertEqual(before, form(arguments))
            return
        self.fail((function.__name__, arguments, "told", told, "not", error))

    def holds(self, judge, *arguments):
        self.gives(True, judge, *arguments, paper=True)

    def fails_to_hold(self, judge, *arguments):
        self.gives(False, judge, *arguments, paper=True)

    def refuses_all(self, judge, *arguments):
        """The judge refuses all values that are papers of nothing."""
        for value in ANY:
            if repr(value) not in [repr(argument) for argument in arguments]:
                self.assertIs(False, judge(*arguments, value), (judge.__name__, arguments, value))


def lists_within(paper):
    """The paper once for each tuple in it, with this one made a list."""
    if not isinstance(paper, tuple):
        return []
    found = [list(paper)]
    for at, item in enumerate(paper):
        found += [paper[:at] + (other,) + paper[at + 1:] for other in lists_within(item)]
    return found


def bools_within(paper):
    """The paper once for each 0 and 1 in it, with this one made False or True."""
    if type(paper) is int and paper in (0, 1):
        return [bool(paper)]
    if not isinstance(paper, tuple):
        return []
    return [
        paper[:at] + (other,) + paper[at + 1:]
        for at, item in enumerate(paper)
        for other in bools_within(item)
    ]


def all_webs(most):
    """All webs of up to so many blocks, as labelled ones."""
    for many in range(1, most + 1):
        pairs = list(combinations(range(many), 2))
        for kept in product((0, 1), repeat=len(pairs)):
            yield many, tuple(pair for pair, keep in zip(pairs, kept) if keep)


def unlike_webs(many):
    """All webs of so many blocks, one of each that differ by their numbers alone."""
    seen = set()
    pairs = list(combinations(range(many), 2))
    for kept in product((0, 1), repeat=len(pairs)):
        links = tuple(pair for pair, keep in zip(pairs, kept) if keep)
        if links in seen:
            continue
        yield many, links
        for order in permutations(range(many)):
            seen.add(tuple(sorted(tuple(sorted((order[a], order[b]))) for a, b in links)))


def line(many):
    return many, tuple((block, block + 1) for block in range(many - 1))


def ring(many):
    return many, tuple(sorted([(block, block + 1) for block in range(many - 1)] + [(0, many - 1)]))


def whole(many):
    return many, tuple(combinations(range(many), 2))


def rows_of(web):
    many, links = web
    rows = [set() for _ in range(many)]
    for one, other in links:
        rows[one].add(other)
        rows[other].add(one)
    return rows


def parts_of(web):
    rows = rows_of(web)
    left = set(range(web[0]))
    parts = []
    while left:
        part = {min(left)}
        while True:
            more = part.union(*[rows[block] for block in part])
            if more == part:
                break
            part = more
        parts.append(tuple(sorted(part)))
        left -= part
    return parts


def calm_by_words(web, rooms):
    """Calm as the overview says it: each part of more blocks than rooms is a line, or a tree."""
    if rooms == 1:
        return True
    for part in parts_of(web):
        links = [link for link in web[1] if link[0] in part]
        degrees = [sum(block in link for link in links) for block in part]
        is_tree = len(links) == len(part) - 1
        if len(part) > rooms and not (is_tree and (rooms == 2 or max(degrees) <= 2)):
            return False
    return True


def walks_of(web, touches):
    """All walks of so many touches, ascending."""
    rows = rows_of(web)
    walks = [(block,) for block in range(web[0])]
    for _ in range(touches - 1):
        walks = [walk + (block,) for walk in walks for block in sorted(rows[walk[-1]])]
    return walks


def least_moves(touches, rooms):
    """Hindsight's moves: what is touched again latest goes out."""
    memory = set()
    moves = 0
    for at, block in enumerate(touches):
        if block in memory:
            continue
        moves += 1
        if len(memory) == rooms:
            later = touches[at:]
            memory.remove(max(memory, key=lambda old: later.index(old) if old in later else len(touches)))
        memory.add(block)
    return moves


def last_used_moves(touches, rooms):
    memory = []
    moves = 0
    for block in touches:
        if block in memory:
            memory.remove(block)
        else:
            moves += 1
            memory = memory[-(rooms - 1):] if rooms > 1 else []
        memory.append(block)
    return moves
