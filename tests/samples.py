"""What the tests share: drawings, and a second model of them.

The model knows a drawing by the set of its lands alone, and turns are reckoned from it; so it
shares no way of reckoning with the program, which knows a drawing by its turns.
"""

import functools
import itertools
import re

EXAMPLE_TEXT = "1342 023 0431 0124 032"
EXAMPLE = ((1, 3, 4, 2), (0, 2, 3), (0, 4, 3, 1), (0, 1, 2, 4), (0, 3, 2))
BARE_TEXT = "12 02 01"
BARE = ((1, 2), (0, 2), (0, 1))
ONE_INNER = ((1, 3, 2), (0, 2, 3), (0, 3, 1), (0, 1, 2))
EXAMPLE_ARROWS = ((3, 0), (3, 1), (3, 2), (4, 0), (4, 2), (4, 3))
EXAMPLE_OUTS = ((0, 1, 2), (0, 3, 2))
ONE_INNER_ARROWS = ((3, 0), (3, 1), (3, 2))
ONE_INNER_OUTS = ((0, 1, 2),)

# Numbers that are never places, some of them places when counted from the end or cut short.
NO_PLACES = (-1, -2, -10, 10, 11, 10 ** 59, 10 ** 60 - 1, -(10 ** 60 - 1), 2 ** 32, 2 ** 64)

# All seven places of it are tied to one another; it lies on a ring (a torus), with 14 lands.
ON_A_RING = tuple(tuple((p + step) % 7 for step in (1, 3, 2, 6, 4, 5)) for p in range(7))
# Ten places on a ring with two holes, with 24 lands, (0, 2, 1) among them.
ON_TWO_RINGS = tuple(
    tuple(int(sign) for sign in word)
    for word in "153469782 024379865 0893541 05296714 031256 016423 04518739 091368 076192 0632817".split()
)


def begun(ring):
    at = ring.index(min(ring))
    return tuple(ring[at:]) + tuple(ring[:at])


def turned_on(ring, steps):
    return ring[steps:] + ring[:steps]


def third_corners(lands):
    """For each way the third corner of the land at its left."""
    thirds = {}
    for a, b, c in lands:
        thirds[a, b] = c
        thirds[b, c] = a
        thirds[c, a] = b
    return thirds


def drawing_by(lands):
    """In the turn of a corner a of the land (a, b, c) c comes right behind b."""
    thirds = third_corners(lands)
    turns = []
    for p in range(1 + max(max(land) for land in lands)):
        behind = {b: c for (a, b), c in thirds.items() if a == p}
        turn = [min(behind)]
        while behind[turn[-1]] != turn[0]:
            turn.append(behind[turn[-1]])
        if len(turn) != len(behind):
            raise AssertionError("the model is broken")
        turns.append(tuple(turn))
    return tuple(turns)


def replaced(lands, old, new):
    if not all(begun(land) in lands for land in old):
        raise AssertionError("the model is broken")
    return frozenset(lands - {begun(land) for land in old} | {begun(land) for land in new})


def lands_put(lands, land):
    a, b, c = land
    new = 1 + max(max(land) for land in lands)
    return replaced(lands, [land], [(a, b, new), (b, c, new), (c, a, new)])


def lands_flipped(lands, p, q):
    """None where the tie of the third corners is there already."""
    thirds = third_corners(lands)
    r, s = thirds[p, q], thirds[q, p]
    if (r, s) in thirds:
        return None
    return replaced(lands, [(p, q, r), (q, p, s)], [(p, s, r), (q, r, s)])


def inner_of(lands):
    return sorted(lands - {(0, 2, 1)})


def ties_of(lands):
    return sorted((p, q) for p, q in third_corners(lands) if p < q)


def inner_ties_of(lands):
    return [(p, q) for p, q in ties_of(lands) if q > 2]


@functools.lru_cache(maxsize=None)
def all_by_lands(n):
    """All drawings of n places, by their lands: each comes of a lesser one by a put and flips."""
    if n == 3:
        return (frozenset({(0, 1, 2), (0, 2, 1)}),)
    row = []
    for lands in all_by_lands(n - 1):
        row.extend(lands_put(lands, land) for land in inner_of(lands))
    found = dict.fromkeys(row)
    while row:
        lands = row.pop()
        for p, q in inner_ties_of(lands):
            flipped = lands_flipped(lands, p, q)
            if flipped is not None and flipped not in found:
                found[flipped] = None
                row.append(flipped)
    return tuple(sorted(found, key=sorted))


@functools.lru_cache(maxsize=None)
def some_by_lands(n):
    """A few drawings of n places, of many shapes, for the counts that have too many to take all."""
    if n <= 6:
        return all_by_lands(n)
    some = []
    for k, lands in enumerate(some_by_lands(n - 1)[::3 if n == 7 else 1]):
        inner = inner_of(lands)
        lands = lands_put(lands, inner[(5 * k) % len(inner)])
        for step in range(k % 7):
            ties = inner_ties_of(lands)
            lands = lands_flipped(lands, *ties[(3 * k + 7 * step) % len(ties)]) or lands
        some.append(lands)
    return tuple(dict.fromkeys(some))


def lands_ringed(lands, land):
    """Three new places are put into the land, tied to one another and each to two of its corners."""
    a, b, c = land
    x = 1 + max(max(land) for land in lands)
    y, z = x + 1, x + 2
    new = [(a, b, x), (b, c, y), (c, a, z), (b, y, x), (c, z, y), (a, x, z), (x, y, z)]
    return replaced(lands, [land], new)


# It has two arrows: the ring of the inner places goes round either way.
RINGED = lands_ringed(frozenset({(0, 1, 2), (0, 2, 1)}), (0, 1, 2))
# A ring within a ring, a ring beside a ring (neither of two arrows is below the other), and such with one place more.
NESTED = lands_ringed(RINGED, (3, 4, 5))
BESIDE = lands_ringed(RINGED, (0, 1, 3))
RINGS_BY_LANDS = (
    RINGED, NESTED, BESIDE, lands_put(RINGED, (3, 4, 5)), lands_put(NESTED, (6, 7, 8)), lands_put(NESTED, (3, 6, 8)),
    lands_put(BESIDE, (3, 4, 5)), lands_ringed(lands_put(RINGED, (3, 4, 5)), (3, 4, 6)),
)


def renamed(lands, inner):
    """The inner places are called by these numbers, 3 by the first one, and so on."""
    called = (0, 1, 2, *inner)
    return frozenset(begun([called[p] for p in land]) for land in lands)


def mixed(lands, k):
    """The inner places numbered in another way, one for each k."""
    inner = sorted({p for land in lands for p in land if p > 2})
    mixed_inner = []
    while inner:
        mixed_inner.append(inner.pop(k % len(inner)))
        k = 3 * k + 1
    return renamed(lands, mixed_inner)


@functools.lru_cache(maxsize=None)
def all_arrows_by_lands(lands):
    """All arrows of the drawing, rising, found by trying both ways for each tie."""
    ties = inner_ties_of(lands)
    inner = {p for land in lands for p in land if p > 2}
    rows = [()]
    for k, (p, q) in enumerate(ties):
        left = [place for tie in ties[k + 1:] for place in tie]
        rows = [(*row, way) for row in rows for way in ((p, q), (q, p)) if way[0] > 2]
        rows = [row for row in rows if all(
            sum(way[0] == place for way in row) <= 3 <= sum(way[0] == place for way in row) + left.count(place)
            for place in inner.intersection((p, q)))]
    return tuple(sorted(tuple(sorted(row)) for row in rows))


@functools.lru_cache(maxsize=None)
def rich_by_lands(n):
    """A few drawings of n places that have many arrows, come to by flips, each of which adds to them."""
    rich = {}
    for k, lands in enumerate(some_by_lands(n)[:3]):
        while lands is not None:
            best = lands
            ways = [lands_flipped(best, p, q) for p, q in inner_ties_of(best)]
            count = {way: len(all_arrows_by_lands(way)) for way in ways if way is not None}
            most = max(count.values(), default=0)
            more = [way for way in count if count[way] == most > len(all_arrows_by_lands(best))]
            lands = min(more, key=sorted, default=None)
        rich[mixed(best, k)] = None
    return tuple(rich)


@functools.lru_cache(maxsize=None)
def drawings_by_lands():
    """Drawings of all counts of places, with few arrows and with many, numbered in several ways."""
    row = []
    for n in range(3, 11):
        few = some_by_lands(n)[::5 if n > 5 else 1]
        row.extend(mixed(lands, k) if n > 5 else lands for k, lands in enumerate(few))
        row.extend(rich_by_lands(n))
    for k, lands in enumerate(RINGS_BY_LANDS):
        row.extend([lands, mixed(lands, k + 5)])
    return tuple(dict.fromkeys(row))


@functools.lru_cache(maxsize=None)
def with_arrows():
    """Pairs of a drawing, by its lands, and arrows of it: of each drawing at most five, spread over all of them."""
    row = []
    for lands in drawings_by_lands():
        arrows = all_arrows_by_lands(lands)
        row.extend((lands, one) for one in arrows[::1 + len(arrows) // 5])
    return tuple(row)


def pairs_of_arrows():
    """Drawings with two arrows each, many of them unlike: of each drawing at most some sixty pairs."""
    for lands in drawings_by_lands():
        row = all_arrows_by_lands(lands)
        for one, other in itertools.product(row[::1 + len(row) // 8], repeat=2):
            yield (drawing_by(lands), lands, one, other)


def letters_round(lands, outs, place):
    """One letter for each place tied to the inner place, from its out 0 on: A, B, C its outs, a, b, c what comes."""
    turn = drawing_by(lands)[place]
    triple = outs[place - 3]
    letters = ""
    for q in turned_on(turn, turn.index(triple[0])):
        letters += "ABC"[triple.index(q)] if q in triple else "abc"[outs[q - 3].index(place)]
    return letters


def model_is_outs(lands, outs):
    """Of outs whose arrows are arrows: whether they are coloured as they have to be."""
    to_corners = all(q > 2 or q == colour for triple in outs for colour, q in enumerate(triple))
    return to_corners and all(re.fullmatch("Ac*Ba*Cb*", letters_round(lands, outs, 3 + k)) for k in range(len(outs)))


@functools.lru_cache(maxsize=None)
def model_outs(lands, arrows):
    """The outs of arrows, found by trying all ways to colour them round each inner place."""
    ways = []
    for place, turn in enumerate(drawing_by(lands)):
        if place > 2:
            met = [q for q in turn if (place, q) in arrows]
            triples = [tuple(turned_on(met, k)) for k in range(3)]
            ways.append([triple for triple in triples if all(q > 2 or q == k for k, q in enumerate(triple))])
    found = [outs for outs in itertools.product(*ways) if model_is_outs(lands, outs)]
    if len(found) != 1:
        raise AssertionError("the model is broken")
    return found[0]


@functools.lru_cache(maxsize=None)
def with_outs():
    """Triples of a drawing, its lands, and outs of it."""
    return tuple((drawing_by(lands), lands, model_outs(lands, one)) for lands, one in with_arrows())


def ways_round(ring):
    return [(ring[k - 1], ring[k]) for k in range(len(ring))]


def lands_reached(lands, first, walls):
    """All lands to which one comes from the first one over ties that are none of the walls (pairs, either way)."""
    thirds = third_corners(lands)
    walls = {*walls, *((q, p) for p, q in walls)}
    reached, grown = set(), {begun(first)}
    while grown != reached:
        reached = grown
        ways = [way for land in reached for way in ways_round(land) if way not in walls]
        grown = reached | {begun((q, p, thirds[q, p])) for p, q in ways}
    return reached


def arrows_by_colour(outs, colour):
    """From where to where the arrows of the colour lead."""
    return {3 + k: triple[colour] for k, triple in enumerate(outs)}


def model_part(lands, outs, place, i):
    """Cut by all three ways of the place, the inner lands fall into three: that at the outer tie is told."""
    walls = [(0, 1), (1, 2), (2, 0)]
    for colour in range(3):
        here, lead = place, arrows_by_colour(outs, colour)
        while here > 2:
            walls.append((here, lead[here]))
            here = lead[here]
    thirds = third_corners(lands)
    a, b = {0: (1, 2), 1: (2, 0), 2: (0, 1)}[i]
    return sorted(lands_reached(lands, (a, b, thirds[a, b]), walls))


@functools.lru_cache(maxsize=None)
def all_rings(lands):
    """All rings of the drawing, rising, each told from its least place, either way round."""
    tied = third_corners(lands)
    places = range(1 + max(map(max, lands)))
    return tuple(ring for ring in itertools.permutations(places, 3)
                 if ring[0] == min(ring) and all(way in tied for way in ways_round(ring)))


def model_left_side(lands, ring):
    """All lands at the left of the ring, the outer one perhaps among them."""
    a, b, c = ring
    return lands_reached(lands, (a, b, third_corners(lands)[a, b]), ways_round(ring))


def model_inside(lands, ring):
    """The lands at that side of the ring at which the outer land is not."""
    at_left = model_left_side(lands, ring)
    return sorted(lands - at_left if (0, 2, 1) in at_left else at_left)


def model_is_left(lands, ring):
    return (0, 2, 1) not in model_left_side(lands, ring)


def model_rings(lands, arrows):
    return [ring for ring in all_rings(lands) if set(ways_round(ring)) <= set(arrows)]


def model_turned(arrows, ring):
    ways = ways_round(ring)
    return tuple(sorted(way[::-1] if way in ways else way for way in arrows))


@functools.lru_cache(maxsize=None)
def model_rows(m):
    """All rows of steps with m u, rising, found by trying where the u stand."""
    rows = []
    for ups in itertools.combinations(range(2 * m), m):
        if all(2 * k >= up for k, up in enumerate(ups)):
            rows.append("".join("u" if k in ups else "d" for k in range(2 * m)))
    return tuple(sorted(rows))


def model_is_pair(first, second):
    """Of two rows of one length: the second row never lies below the first one, reckoned by their heights."""
    heights = [list(itertools.accumulate(1 if sign == "u" else -1 for sign in row)) for row in (first, second)]
    return all(one <= other for one, other in zip(*heights))


@functools.lru_cache(maxsize=None)
def model_pairs(m):
    return tuple(pair for pair in itertools.product(model_rows(m), repeat=2) if model_is_pair(*pair))


def model_rounds(turns):
    """All rings of ways of turns, each as the list of places at which its ways begin."""
    left = {(p, q): (q, turn_of_q[turn_of_q.index(p) - 1])
            for p, turn in enumerate(turns) for q, turn_of_q in [(q, turns[q]) for q in turn]}
    rounds = []
    while left:
        first = min(left)
        way, corners = first, []
        while way in left:
            corners.append(way[0])
            way = left.pop(way)
        rounds.append(corners)
    return rounds


def model_fault(turns):
    """The first fault, told word for word as in the document; None for a drawing."""
    n = len(turns)
    places = range(n)
    if not 3 <= n <= 10:
        return ("count", n)
    for p in places:
        if not turns[p] or not set(turns[p]) <= set(places) - {p}:
            return ("place", p)
    for p in places:
        if sorted(turns[p]) != sorted(set(turns[p])):
            return ("twice", p)
    for p in places:
        if [q for q in turns[p] if p not in turns[q]]:
            return ("back", p)
    together = {0}
    for again in places:
        together = together.union(*(turns[p] for p in together))
    if len(together) < n:
        return ("apart", min(set(places) - together))
    rounds = model_rounds([list(turn) for turn in turns])
    odd = [min(corners) for corners in rounds if len(corners) != 3]
    if odd:
        return ("land", min(odd))
    if len(rounds) != 2 * n - 4:
        return ("flat", len(rounds))
    if not any(begun(corners) == (0, 2, 1) for corners in rounds):
        return ("outer", 0)
    return None
