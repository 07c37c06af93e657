"""Gaps with weights on lanes along the moments: the heaviest ones that fit together, and tolls.

Points are the places between moments: point 0 is ahead of the first moment, and moment k lies
between the points k and k + 1. A change of what is kept goes along points: on by a moment with
room or by a gap that comes to be kept, back by a moment with room left or by a gap let go.
"""

from slowshelves.gaps import loads_of


def heaviest_gaps(spaces, weights):
    """(gaps, tolls): of the gaps that weights tells those of the greatest weight that fit, and tolls.

    spaces tells for each moment how many gaps may go over it. The tolls at the moments under a gap
    are at least its weight together if it is not kept, at most if it is, and 0 where there is room.
    """
    kept = {}
    met = {}
    for gap in sorted(weights):
        rows = _change_rows(spaces, met, kept)
        met[gap] = weights[gap]
        costs, ahead = _cheapest_ways(rows, gap[1])
        begin = gap[0] + 1
        if begin in costs and costs[begin] < weights[gap]:
            for other in _changed_gaps(ahead, gap[1], begin) + [gap]:
                if other in kept:
                    del kept[other]
                else:
                    kept[other] = True
    costs, _ = _cheapest_ways(_change_rows(spaces, met, kept), 0)
    tolls = [costs[moment] - costs[moment + 1] for moment in range(len(spaces))]
    return tuple(sorted(kept)), tuple(tolls)


def _change_rows(spaces, weights, kept):
    """For each point where a change can go from it: rows (point, cost, gap that is changed or None)."""
    loads = loads_of(len(spaces), list(kept))
    rows = [[] for _ in range(len(spaces) + 1)]
    for moment, space in enumerate(spaces):
        rows[moment].append((moment + 1, 0, None))
        if loads[moment] < space:
            rows[moment + 1].append((moment, 0, None))
    for gap in weights:
        first, last = gap
        if gap in kept:
            rows[last].append((first + 1, weights[gap], gap))
        else:
            rows[first + 1].append((last, -weights[gap], gap))
    return rows


def _cheapest_ways(rows, first):
    """(costs, ahead): for each point that is reached the least cost, and (point, gap) ahead of it."""
    costs = {first: 0}
    ahead = {}
    waiting = {first: True}
    while waiting:
        changed = {}
        for point in waiting:
            for other, cost, gap in rows[point]:
                if other not in costs or costs[other] > costs[point] + cost:
                    costs[other] = costs[point] + cost
                    ahead[other] = (point, gap)
                    changed[other] = True
        waiting = changed
    return costs, ahead


def _changed_gaps(ahead, first, last):
    """The gaps that are changed on the way from the first point to the last one."""
    gaps = []
    point = last
    while point != first:
        point, gap = ahead[point]
        if gap is not None:
            gaps.append(gap)
    return gaps
