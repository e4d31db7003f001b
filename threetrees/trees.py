"""Trees: the ways of one colour, the children of a place, and the parts that the ways cut out."""

from threetrees.colours import COLOURS, out_of
from threetrees.drawings import CORNERS, OUTER_LAND, begun_with, inner_lands, land_left_of, lands_from, ways_round


def way_to(outs, place, colour):
    way = [place]
    while way[-1] >= CORNERS:
        way.append(out_of(outs, way[-1], colour))
    return way


def children(drawing, outs, place, colour):
    following = (colour + 1) % COLOURS
    if place >= CORNERS:
        first = out_of(outs, place, following)
    elif place == colour:
        first = following
    else:
        return []
    around = begun_with(drawing[place], first)
    return [q for q in around if q >= CORNERS and out_of(outs, q, colour) == place]


def walk(drawing, outs, colour):
    walked = []
    coming = children(drawing, outs, colour, colour)
    while len(coming) > 0:
        place = coming[0]
        walked.append(place)
        coming = children(drawing, outs, place, colour) + coming[1:]
    return walked


def steps_of(way):
    return list(zip(way, way[1:]))


def part(drawing, outs, place, i):
    if place < CORNERS:
        return inner_lands(drawing) if place == i else []
    # Of the outer tie between these two corners the inner land lies at the left of this way.
    second = (i + 1) % COLOURS
    third = (i + 2) % COLOURS
    first_land = land_left_of(drawing, second, third)
    shut = ways_round(OUTER_LAND) + steps_of(way_to(outs, place, second)) + steps_of(way_to(outs, place, third))
    return lands_from(drawing, first_land, shut)
