"""The places taken off one by one, and the arrows that come of it."""

from threetrees.drawings import CORNERS, begun_with, tied

FIRST_RIM = (0, 2, 1)


def can_be_taken_off(drawing, rim, k):
    return [q for q in rim if tied(drawing, rim[k], q)] == [rim[k - 1], rim[k + 1]]


def next_taken_off(drawing, rim):
    return min([rim[k] for k in range(1, len(rim) - 1) if can_be_taken_off(drawing, rim, k)])


def between(turn, ahead, behind):
    ring = begun_with(turn, ahead)
    return ring[1:ring.index(behind)]


def taken_off(drawing):
    rim = FIRST_RIM
    order = []
    arrows = []
    while len(rim) > 2:
        place = next_taken_off(drawing, rim)
        k = rim.index(place)
        ahead = rim[k - 1]
        behind = rim[k + 1]
        coming = between(drawing[place], ahead, behind)
        arrows.extend([(q, place) for q in coming])
        if place >= CORNERS:
            order.append(place)
            arrows.extend([(place, ahead), (place, behind)])
        rim = rim[:k] + coming + rim[k + 1:]
    return (order, tuple(sorted(arrows)))
