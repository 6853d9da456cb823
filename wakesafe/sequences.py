"""Sequences of things that must keep some pairs: the things are numbers from 0, and a mask has a bit for each."""

from math import comb, factorial


def masks_behind(many, pairs):
    """For each thing the mask of those that must come behind it, also by way of others."""
    behind = [0 for _ in range(many)]
    for first, second in pairs:
        behind[first] = behind[first] | (1 << second)
    for middle in range(many):
        for at in range(many):
            if _has(behind[at], middle):
                behind[at] = behind[at] | behind[middle]
    return behind


def turned(behind):
    """For each thing the mask of those that must come ahead of it."""
    many = len(behind)
    return [sum([1 << other for other in range(many) if _has(behind[other], at)]) for at in range(many)]


def pairs_of(behind):
    """All pairs of a thing and one that must come behind it."""
    many = len(behind)
    return [(at, other) for at in range(many) for other in range(many) if _has(behind[at], other)]


def links_of(behind):
    """The pairs that do not come by way of a third thing."""
    ahead = turned(behind)
    return [(first, second) for first, second in pairs_of(behind) if behind[first] & ahead[second] == 0]


def has_circle(behind):
    """Whether some thing must come behind itself."""
    return any([_has(behind[at], at) for at in range(len(behind))])


def earliest_of(behind):
    """The first one of the sequences that keep all pairs."""
    ahead = turned(behind)
    left = list(range(len(behind)))
    done = 0
    found = []
    while left:
        free = [at for at in left if ahead[at] & ~done == 0]
        found.append(free[0])
        left = [at for at in left if at != free[0]]
        done = done | (1 << free[0])
    return found


def many_of(behind):
    """The number of the sequences that keep all pairs.

    Twins, things that stand in the same pairs, may change places: so they are
    counted in one sequence only. Parts that no pair joins are counted each by
    itself, and then shuffled.
    """
    total = 1
    ahead = list(turned(behind))
    classes = _all_twins(ahead, behind)
    for twins in classes:
        total = total * factorial(len(twins))
        for first, second in zip(twins, twins[1:]):
            ahead[second] = ahead[second] | (1 << first)
    placed = 0
    for part in _parts(ahead):
        placed = placed + len(part)
        total = total * comb(placed, len(part)) * _many_in(part, ahead)
    return total


def _all_twins(ahead, behind):
    """The things, those that stand in the same pairs together."""
    twins = {}
    for at, masks in enumerate(zip(ahead, behind)):
        twins.setdefault(masks, []).append(at)
    return list(twins.values())


def _has(mask, at):
    """Whether a mask has the bit of a thing."""
    return (mask >> at) & 1 == 1


def _parts(ahead):
    """The parts that nothing joins, each a list of its things."""
    many = len(ahead)
    near = [first | second for first, second in zip(ahead, turned(ahead))]
    parts = []
    seen = 0
    for at in range(many):
        if not _has(seen, at):
            mask = _joined(near, 1 << at)
            seen = seen | mask
            parts.append([other for other in range(many) if _has(mask, other)])
    return parts


def _joined(near, mask):
    """The mask of all that is joined with the things of a mask."""
    grown = 0
    while grown != mask:
        grown = mask
        for at, others in enumerate(near):
            if _has(grown, at):
                mask = mask | others
    return mask


def _many_in(part, ahead):
    """The number of the sequences of a part."""
    ways = {0: 1}
    for _ in part:
        ways = _one_more(part, ahead, ways)
    return sum(list(ways.values()))


def _one_more(part, ahead, ways):
    """For each choice of things that can be done first, with one thing more than before, in how many ways."""
    longer = {}
    for done in ways:
        for at in part:
            if not _has(done, at) and ahead[at] & ~done == 0:
                key = done | (1 << at)
                longer[key] = longer.get(key, 0) + ways[done]
    return longer
