"""Colours: the outs of arrows, and the arrows of outs."""

from threetrees.arrows import arrow_fault
from threetrees.drawings import CORNERS, begun_with

COLOURS = 3


def out_of(outs, place, colour):
    return outs[place - CORNERS][colour]


def second_out(drawing, arrows, came, place):
    met = [q for q in begun_with(drawing[place], came) if (place, q) in arrows]
    return met[1]


def colour_of(drawing, arrows, p, q):
    here = p
    there = q
    while there >= CORNERS:
        beyond = second_out(drawing, arrows, here, there)
        here = there
        there = beyond
    return there


def triple_of(drawing, arrows, place):
    ends = [q for p, q in arrows if p == place]
    return tuple(sorted(ends, key=lambda q: colour_of(drawing, arrows, place, q)))


def outs_of(drawing, arrows):
    return tuple([triple_of(drawing, arrows, place) for place in range(CORNERS, len(drawing))])


def arrows_of(outs):
    pairs = []
    for k, triple in enumerate(outs):
        pairs.extend([(k + CORNERS, q) for q in triple])
    return tuple(sorted(pairs))


def sector(outs, place, q):
    # Round an inner place lie six of them, numbered from 0 in the order in which one meets them
    # from its out of colour 0 on: out 0, in 2, out 1, in 0, out 2, in 1.
    triple = outs[place - CORNERS]
    if q in triple:
        return 2 * triple.index(q)
    colour = outs[q - CORNERS].index(place)
    return 2 * ((colour + 1) % COLOURS) + 1


def is_coloured_at(drawing, outs, place):
    triple = outs[place - CORNERS]
    if any([q < CORNERS and q != colour for colour, q in enumerate(triple)]):
        return False
    met = [sector(outs, place, q) for q in begun_with(drawing[place], triple[0])]
    return met == sorted(met)


def is_outs(drawing, outs):
    # Triples more or fewer than inner places are no arrows either; and only where they are arrows
    # each tied place has a sector.
    if arrow_fault(drawing, arrows_of(outs)) is not None:
        return False
    return all([is_coloured_at(drawing, outs, place) for place in range(CORNERS, len(drawing))])
