"""Rings: what lies inside of them, and arrows turned about along them."""

from threetrees.drawings import OUTER_LAND, inner_lands, land_left_of, lands_from, tied, ways_round
from threetrees.errors import NoRing


def ring_ways(drawing, ring):
    ways = ways_round(ring)
    if not all([tied(drawing, p, q) for p, q in ways]):
        raise NoRing("these are not three places each tied to the two others")
    return ways


def inside(drawing, ring):
    outside = lands_from(drawing, OUTER_LAND, ring_ways(drawing, ring))
    return [land for land in inner_lands(drawing) if land not in outside]


def is_left(drawing, ring):
    # What is no ring is refused here, ahead of a look at its first way, which may be none.
    within = inside(drawing, ring)
    return land_left_of(drawing, ring[0], ring[1]) in within


def go_round(arrows, ring):
    return all([way in arrows for way in ways_round(ring)])


def rings(drawing, arrows):
    found = []
    for a, b in arrows:
        if a < b:
            found.extend([(a, b, c) for c in range(a + 1, len(drawing)) if go_round(arrows, (a, b, c))])
    return sorted(found)


def turned(drawing, arrows, ring):
    ways = ring_ways(drawing, ring)
    if not go_round(arrows, ring):
        raise NoRing("the arrows do not go round this ring")
    others = [way for way in arrows if way not in ways]
    return tuple(sorted(others + [(q, p) for p, q in ways]))
