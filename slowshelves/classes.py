"""Things that go on alike: classes of them, and where rows of steps first tell them apart."""

from slowshelves.common import numbered


def alike_classes(keys, following):
    """For each thing the number of its class, classes numbered as first come to.

    Things of one class have equal keys, and what follows them, step by step, has one class.
    """
    classes = list(numbered(keys))
    members = [[] for _ in range(max(classes) + 1)]
    for thing, number in enumerate(classes):
        members[number].append(thing)
    members = [{thing: True for thing in row} for row in members]
    ahead = _things_ahead(following)
    told = {}
    waiting = list(range(len(keys)))
    while waiting:
        changed = {}
        for number, things in _by_class(classes, waiting):
            for thing in _parted(classes, members, following, told, number, things):
                changed.update({other: True for other in ahead[thing]})
        waiting = list(changed)
    return numbered(classes)


def _things_ahead(following):
    ahead = [[] for _ in range(len(following))]
    for thing, row in enumerate(following):
        for other in row:
            ahead[other].append(thing)
    return ahead


def _by_class(classes, things):
    """Pairs of a class and those of the things that are in it."""
    rows = {}
    for thing in things:
        rows.setdefault(classes[thing], []).append(thing)
    return list(rows.items())


def _parted(classes, members, following, told, number, things):
    """Parts the class by what follows the told things; all that came to a new class.

    told keeps for each class what follows all of it but the things still to be looked at.
    """
    groups = {}
    for thing in things:
        groups.setdefault(tuple([classes[other] for other in following[thing]]), []).append(thing)
    many = {sign: len(groups[sign]) for sign in groups}
    rest = len(members[number]) - len(things)
    if rest:
        many[told[number]] = many.get(told[number], 0) + rest
    # The greatest one keeps the class, so that each thing comes to a new class but a few times.
    kept = max(list(many), key=lambda sign: many[sign])
    if rest and told[number] != kept:
        looked = {thing: True for thing in things}
        old = [thing for thing in members[number] if thing not in looked]
        groups[told[number]] = groups.get(told[number], []) + old
    told[number] = kept
    moved = []
    for sign in groups:
        if sign != kept:
            _come_to_new(classes, members, number, groups[sign])
            told[len(members) - 1] = sign
            moved.extend(groups[sign])
    return moved


def _come_to_new(classes, members, number, things):
    for thing in things:
        del members[number][thing]
        classes[thing] = len(members)
    members.append({thing: True for thing in things})


def first_apart(one, other):
    """The first row of steps, shorter ones first, then lesser ones, that tells two things apart, or None.

    Each of both is a tuple of states, each a tuple of rows (step, mark, next state), steps the
    same as those of the other one; both begin with state 0. The last step has unlike marks.
    """
    pairs = [(0, 0)]
    ahead = {(0, 0): None}
    at = 0
    while at < len(pairs):
        pair = pairs[at]
        at += 1
        for (step, mark, following), (_, other_mark, other_following) in zip(one[pair[0]], other[pair[1]]):
            if mark != other_mark:
                return _steps_to(ahead, pair) + (step,)
            behind = (following, other_following)
            if behind not in ahead:
                ahead[behind] = (pair, step)
                pairs.append(behind)
    return None


def _steps_to(ahead, pair):
    steps = []
    while ahead[pair] is not None:
        pair, step = ahead[pair]
        steps.append(step)
    return tuple(steps[::-1])
