"""The three numbers of each place, the points that two of them make, and the side of three points."""

from threetrees.colours import COLOURS
from threetrees.trees import part


def numbers_of_place(drawing, outs, place):
    return tuple([len(part(drawing, outs, place, i)) for i in range(COLOURS)])


def numbers(drawing, outs):
    return tuple([numbers_of_place(drawing, outs, place) for place in range(len(drawing))])


def points(drawing, outs):
    return [(triple[1], triple[2]) for triple in numbers(drawing, outs)]


def side_of(a, b, c):
    turn = (b[0] - a[0]) * (c[1] - a[1]) - (b[1] - a[1]) * (c[0] - a[0])
    if turn > 0:
        return 1
    if turn < 0:
        return -1
    return 0
