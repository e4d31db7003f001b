"""Drawings: turns looked through, and the ties and lands in them."""

from threetrees.errors import NoDrawing, NoTie

LEAST_PLACES = 3
MOST_PLACES = 10
CORNERS = 3
OUTER_LAND = (0, 2, 1)


def begun_with(ring, first):
    at = ring.index(first)
    return ring[at:] + ring[:at]


def begun_with_least(ring):
    return begun_with(ring, min(ring))


def ways_round(ring):
    # The index -1 is the last one, so the way from the last place to the first one comes first.
    return [(ring[k - 1], ring[k]) for k in range(len(ring))]


def ahead_in(turn, place):
    # The index -1 is the last one, and ahead of the first one stands the last one.
    return turn[turn.index(place) - 1]


def round_from(turns, p, q):
    # The walk ends, as each way has just one behind it and just one ahead of it.
    corners = [p]
    here = p
    there = q
    while True:
        behind = ahead_in(turns[there], here)
        if there == p and behind == q:
            return tuple(corners)
        corners.append(there)
        here = there
        there = behind


def all_rounds(turns):
    # Also for turns that are no drawing: their lands may have any count of corners. Each is found
    # from its least place, as the places are gone through rising.
    seen = {}
    rounds = []
    for p, turn in enumerate(turns):
        for q in turn:
            if (p, q) not in seen:
                corners = round_from(turns, p, q)
                for way in ways_round(corners):
                    seen[way] = True
                rounds.append(corners)
    return rounds


def is_misplaced(turns, p):
    strange = [q for q in turns[p] if q < 0 or q >= len(turns) or q == p]
    return len(turns[p]) == 0 or len(strange) > 0


def is_doubled(turns, p):
    return len(set(turns[p])) < len(turns[p])


def is_one_sided(turns, p):
    return any([p not in turns[q] for q in turns[p]])


def is_apart(turns, p):
    reached = [0]
    k = 0
    while k < len(reached):
        for q in turns[reached[k]]:
            if q not in reached:
                reached.append(q)
        k += 1
    return p not in reached


def is_at_odd_land(turns, p):
    return any([p in corners for corners in all_rounds(turns) if len(corners) != 3])


# In the order of the refusals: each one may lean on there being none of those ahead of it.
PLACE_FAULTS = (
    ("place", is_misplaced),
    ("twice", is_doubled),
    ("back", is_one_sided),
    ("apart", is_apart),
    ("land", is_at_odd_land),
)


def first_fault(turns):
    n = len(turns)
    if n < LEAST_PLACES or n > MOST_PLACES:
        return ("count", n)
    for word, is_faulty in PLACE_FAULTS:
        for p in range(n):
            if is_faulty(turns, p):
                return (word, p)
    found = lands(turns)
    if len(found) != 2 * n - 4:
        return ("flat", len(found))
    if OUTER_LAND not in found:
        return ("outer", 0)
    return None


def checked(turns):
    copied = tuple([tuple(turn) for turn in turns])
    fault = first_fault(copied)
    if fault is not None:
        raise NoDrawing(fault[0], fault[1])
    return tuple([begun_with_least(turn) for turn in copied])


def tied(drawing, p, q):
    return 0 <= p < len(drawing) and q in drawing[p]


def left_of(drawing, p, q):
    if not tied(drawing, p, q):
        raise NoTie(f"{p} and {q} are not tied")
    return ahead_in(drawing[q], p)


def lands(drawing):
    return sorted(all_rounds(drawing))


def inner_lands(drawing):
    return [land for land in lands(drawing) if land != OUTER_LAND]


def is_inner_tie(drawing, p, q):
    return tied(drawing, p, q) and max(p, q) >= CORNERS


def inner_ties(drawing):
    pairs = []
    for p in range(len(drawing)):
        pairs.extend([(p, q) for q in sorted(drawing[p]) if p < q and q >= CORNERS])
    return pairs


def land_left_of(drawing, p, q):
    return begun_with_least((p, q, left_of(drawing, p, q)))


def crossings(drawing, first, shut):
    # Told are ways: at the left of each lies a land that is come to already (at first the land
    # first), and at its right one to which one comes only so. No tie of the pairs shut is crossed.
    reached = [first]
    crossed = []
    row = ways_round(first)
    k = 0
    while k < len(row):
        p = row[k][0]
        q = row[k][1]
        beyond = land_left_of(drawing, q, p)
        if beyond not in reached and (p, q) not in shut and (q, p) not in shut:
            reached.append(beyond)
            crossed.append((p, q))
            row.extend(ways_round(beyond))
        k += 1
    return crossed


def lands_from(drawing, first, shut):
    beyond = [land_left_of(drawing, q, p) for p, q in crossings(drawing, first, shut)]
    return sorted([first] + beyond)
