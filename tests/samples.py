"""What the tests share: drawings, and a second model of them.

The model knows a drawing by the set of its lands alone, and turns are reckoned from it; so it
shares no way of reckoning with the program, which knows a drawing by its turns.
"""

import functools

EXAMPLE_TEXT = "1342 023 0431 0124 032"
EXAMPLE = ((1, 3, 4, 2), (0, 2, 3), (0, 4, 3, 1), (0, 1, 2, 4), (0, 3, 2))
BARE_TEXT = "12 02 01"
BARE = ((1, 2), (0, 2), (0, 1))
ONE_INNER = ((1, 3, 2), (0, 2, 3), (0, 3, 1), (0, 1, 2))

# Numbers that are never places, some of them places when counted from the end or cut short.
NO_PLACES = (-1, -2, -10, 10, 11, 10 ** 59, 10 ** 60 - 1, -(10 ** 60 - 1), 2 ** 32, 2 ** 64)

# All seven places of it are tied to one another; it lies on a ring (a torus), with 14 lands.
ON_A_RING = tuple(tuple((p + step) % 7 for step in (1, 3, 2, 6, 4, 5)) for p in range(7))
# Ten places on a ring with two holes, with 24 lands, (0, 2, 1) among them.
ON_TWO_RINGS = tuple(
    tuple(int(sign) for sign in word)
    for word in "153469782 024379865 0893541 05296714 031256 016423 04518739 091368 076192 0632817".split()
)


def begun(ring):
    at = ring.index(min(ring))
    return tuple(ring[at:]) + tuple(ring[:at])


def turned_on(ring, steps):
    return ring[steps:] + ring[:steps]


def third_corners(lands):
    """For each way the third corner of the land at its left."""
    thirds = {}
    for a, b, c in lands:
        thirds[a, b] = c
        thirds[b, c] = a
        thirds[c, a] = b
    return thirds


def drawing_by(lands):
    """In the turn of a corner a of the land (a, b, c) c comes right behind b."""
    thirds = third_corners(lands)
    turns = []
    for p in range(1 + max(max(land) for land in lands)):
        behind = {b: c for (a, b), c in thirds.items() if a == p}
        turn = [min(behind)]
        while behind[turn[-1]] != turn[0]:
            turn.append(behind[turn[-1]])
        if len(turn) != len(behind):
            raise AssertionError("the model is broken")
        turns.append(tuple(turn))
    return tuple(turns)


def replaced(lands, old, new):
    if not all(begun(land) in lands for land in old):
        raise AssertionError("the model is broken")
    return frozenset(lands - {begun(land) for land in old} | {begun(land) for land in new})


def lands_put(lands, land):
    a, b, c = land
    new = 1 + max(max(land) for land in lands)
    return replaced(lands, [land], [(a, b, new), (b, c, new), (c, a, new)])


def lands_flipped(lands, p, q):
    """None where the tie of the third corners is there already."""
    thirds = third_corners(lands)
    r, s = thirds[p, q], thirds[q, p]
    if (r, s) in thirds:
        return None
    return replaced(lands, [(p, q, r), (q, p, s)], [(p, s, r), (q, r, s)])


def inner_of(lands):
    return sorted(lands - {(0, 2, 1)})


def ties_of(lands):
    return sorted((p, q) for p, q in third_corners(lands) if p < q)


def inner_ties_of(lands):
    return [(p, q) for p, q in ties_of(lands) if q > 2]


@functools.lru_cache(maxsize=None)
def all_by_lands(n):
    """All drawings of n places, by their lands: each comes of a lesser one by a put and flips."""
    if n == 3:
        return (frozenset({(0, 1, 2), (0, 2, 1)}),)
    row = []
    for lands in all_by_lands(n - 1):
        row.extend(lands_put(lands, land) for land in inner_of(lands))
    found = dict.fromkeys(row)
    while row:
        lands = row.pop()
        for p, q in inner_ties_of(lands):
            flipped = lands_flipped(lands, p, q)
            if flipped is not None and flipped not in found:
                found[flipped] = None
                row.append(flipped)
    return tuple(sorted(found, key=sorted))


@functools.lru_cache(maxsize=None)
def some_by_lands(n):
    """A few drawings of n places, of many shapes, for the counts that have too many to take all."""
    if n <= 6:
        return all_by_lands(n)
    some = []
    for k, lands in enumerate(some_by_lands(n - 1)[::3 if n == 7 else 1]):
        inner = inner_of(lands)
        lands = lands_put(lands, inner[(5 * k) % len(inner)])
        for step in range(k % 7):
            ties = inner_ties_of(lands)
            lands = lands_flipped(lands, *ties[(3 * k + 7 * step) % len(ties)]) or lands
        some.append(lands)
    return tuple(dict.fromkeys(some))


def model_rounds(turns):
    """All rings of ways of turns, each as the list of places at which its ways begin."""
    left = {(p, q): (q, turn_of_q[turn_of_q.index(p) - 1])
            for p, turn in enumerate(turns) for q, turn_of_q in [(q, turns[q]) for q in turn]}
    rounds = []
    while left:
        first = min(left)
        way, corners = first, []
        while way in left:
            corners.append(way[0])
            way = left.pop(way)
        rounds.append(corners)
    return rounds


def model_fault(turns):
    """The first fault, told word for word as in the document; None for a drawing."""
    n = len(turns)
    places = range(n)
    if not 3 <= n <= 10:
        return ("count", n)
    for p in places:
        if not turns[p] or not set(turns[p]) <= set(places) - {p}:
            return ("place", p)
    for p in places:
        if sorted(turns[p]) != sorted(set(turns[p])):
            return ("twice", p)
    for p in places:
        if [q for q in turns[p] if p not in turns[q]]:
            return ("back", p)
    together = {0}
    for again in places:
        together = together.union(*(turns[p] for p in together))
    if len(together) < n:
        return ("apart", min(set(places) - together))
    rounds = model_rounds([list(turn) for turn in turns])
    odd = [min(corners) for corners in rounds if len(corners) != 3]
    if odd:
        return ("land", min(odd))
    if len(rounds) != 2 * n - 4:
        return ("flat", len(rounds))
    if not any(begun(corners) == (0, 2, 1) for corners in rounds):
        return ("outer", 0)
    return None
