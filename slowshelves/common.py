"""What several modules need: kinds of values, and what hangs together by links."""

from slowshelves.errors import InvalidSize


def is_integer(value):
    """Whether any value is an integer; True and False are none."""
    return isinstance(value, int) and not isinstance(value, bool)


def is_within(value, low, high):
    """Whether any value is an integer from low to high."""
    return is_integer(value) and low <= value <= high


def is_below(value, limit):
    """Whether any value is a number below the limit."""
    return is_within(value, 0, limit - 1)


def is_sequence(value):
    """Whether any value is a list or a tuple."""
    return isinstance(value, (list, tuple))


def is_pair(value):
    """Whether any value is a sequence of two."""
    return is_sequence(value) and len(value) == 2


def is_unlike_row(value, limit):
    """Whether any value is a sequence of unlike numbers below the limit."""
    if not is_sequence(value):
        return False
    return all([is_below(item, limit) for item in value]) and len(set(value)) == len(value)


def first_no_new_number(row, limit):
    """The first place of a row with no number below the limit, or one that came before, or None."""
    met = {}
    for at, item in enumerate(row):
        if not is_below(item, limit) or item in met:
            return at
        met[item] = True
    return None


def is_paper_row(value, limit):
    """Whether any value is a tuple, no list, of unlike numbers below the limit."""
    return isinstance(value, tuple) and is_unlike_row(value, limit)


def is_lot(value):
    """Whether any value is a sequence of integers, each one greater than the one ahead."""
    if not is_sequence(value) or not all([is_integer(item) for item in value]):
        return False
    return all([value[at - 1] < value[at] for at in range(1, len(value))])


def is_lot_of(value, row):
    """Whether any value is a lot of numbers of the row."""
    return is_lot(value) and all([item in row for item in value])


def is_exactly(value, told):
    """Whether any value is what is told, of the same kinds throughout; a list is no tuple, a bool no integer."""
    if isinstance(told, tuple):
        if not isinstance(value, tuple) or len(value) != len(told):
            return False
        return all([is_exactly(item, told_item) for item, told_item in zip(value, told)])
    return isinstance(value, bool) == isinstance(told, bool) and value == told


def need_size(value, low, high, word):
    """Any value, if it is an integer from low to high."""
    if not is_within(value, low, high):
        raise InvalidSize(word)
    return value


def numbered(row):
    """The row with its things numbered as first come to."""
    numbers = {}
    for thing in row:
        numbers.setdefault(thing, len(numbers))
    return tuple([numbers[thing] for thing in row])


def struck(row):
    """The row without what is like the one ahead of it."""
    return tuple([thing for at, thing in enumerate(row) if at == 0 or row[at - 1] != thing])


def linked_rows(many, links):
    """For each number below many those linked to it, ascending."""
    rows = [[] for _ in range(many)]
    for one, other in links:
        rows[one].append(other)
        rows[other].append(one)
    return tuple([tuple(sorted(row)) for row in rows])


def _met_from(rows, first):
    """For each number that hangs together with the first, nearer ones first, the one ahead of it."""
    ahead = {first: first}
    order = [first]
    at = 0
    while at < len(order):
        here = order[at]
        at += 1
        for number in rows[here]:
            if number not in ahead:
                ahead[number] = here
                order.append(number)
    return ahead


def reached_row(rows, first):
    """All numbers that hang together with the first, nearer ones first."""
    return list(_met_from(rows, first))


def lane_row(rows, first):
    """The numbers from the first on, each one linked to the one ahead, as long as one is left."""
    row = [first]
    following = [first]
    while following:
        following = [other for other in rows[row[-1]] if other not in row]
        row.extend(following[:1])
    return row


def far_rows(rows, first):
    """Lots of the numbers that are 0, 1, .. steps from the first."""
    met = {first: True}
    lots = [(first,)]
    while lots[-1]:
        following = sorted(set([other for number in lots[-1] for other in rows[number] if other not in met]))
        met.update({number: True for number in following})
        lots.append(tuple(following))
    return tuple(lots[:-1])


def hanging_parts(rows):
    """The parts of what hangs together, ascending; rows tells what is linked to each number."""
    met = {}
    parts = []
    for first in range(len(rows)):
        if first not in met:
            part = sorted(reached_row(rows, first))
            met.update({number: True for number in part})
            parts.append(tuple(part))
    return tuple(parts)


def rows_within(rows, numbers):
    """Rows of what is linked, with the links between the told numbers alone."""
    kept = {number: True for number in numbers}
    within = [[] for _ in range(len(rows))]
    for number in kept:
        within[number] = [other for other in rows[number] if other in kept]
    return within


def shortest_way(rows, first, last):
    """Some shortest row from first to last, each next one linked, or None."""
    ahead = _met_from(rows, first)
    if last not in ahead:
        return None
    way = [last]
    while way[-1] != first:
        way.append(ahead[way[-1]])
    return tuple(way[::-1])
