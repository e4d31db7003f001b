"""Arrows: for each inner tie one of both ways, so that three go out from each inner place."""

from threetrees.drawings import CORNERS, is_inner_tie
from threetrees.errors import NoArrows

ARROWS_OUT = 3


def is_told_ahead(pairs, k):
    p = pairs[k][0]
    q = pairs[k][1]
    return (p, q) in pairs[:k] or (q, p) in pairs[:k]


def fault_of_pairs(drawing, pairs):
    for k, pair in enumerate(pairs):
        if not is_inner_tie(drawing, pair[0], pair[1]):
            return ("tie", k)
    for k in range(len(pairs)):
        if is_told_ahead(pairs, k):
            return ("twice", k)
    # Corners need no look: with three out from each inner place no tie is left for an arrow of theirs.
    starts = [pair[0] for pair in pairs]
    for p in range(CORNERS, len(drawing)):
        if starts.count(p) != ARROWS_OUT:
            return ("out", p)
    return None


def as_tuples(pairs):
    return [(pair[0], pair[1]) for pair in pairs]


def arrow_fault(drawing, pairs):
    return fault_of_pairs(drawing, as_tuples(pairs))


def arrows_by(drawing, pairs):
    copied = as_tuples(pairs)
    fault = fault_of_pairs(drawing, copied)
    if fault is not None:
        raise NoArrows(fault)
    return tuple(sorted(copied))
