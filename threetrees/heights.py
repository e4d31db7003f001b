"""Heights: how arrows of one drawing lie above and below one another."""

from threetrees.drawings import OUTER_LAND, crossings, inner_lands, land_left_of
from threetrees.orders import taken_off
from threetrees.rings import is_left, rings, turned


def rise(one, other, p, q):
    # How much more the land at the left of this way has than that at its right; 0 for outer ties,
    # as neither has an arrow there.
    return int((p, q) in one) - int((p, q) in other)


def heights(drawing, one, other):
    known = {OUTER_LAND: 0}
    for p, q in crossings(drawing, OUTER_LAND, []):
        known[land_left_of(drawing, q, p)] = known[land_left_of(drawing, p, q)] - rise(one, other, p, q)
    return tuple([known[land] for land in inner_lands(drawing)])


def is_below(drawing, one, other):
    return min(heights(drawing, other, one)) >= 0


def turned_to_end(drawing, arrows, left):
    # Told are the rings that are turned and the arrows at the end. Whichever ring is turned, one
    # comes nearer to the end, so any first one will do.
    row = []
    here = arrows
    while True:
        such = [ring for ring in rings(drawing, here) if is_left(drawing, ring) == left]
        if len(such) == 0:
            return (row, here)
        row.append(such[0])
        here = turned(drawing, here, such[0])


def lowest(drawing):
    return turned_to_end(drawing, taken_off(drawing)[1], True)[1]


def highest(drawing):
    return turned_to_end(drawing, taken_off(drawing)[1], False)[1]


def led_by(drawing, arrows, height_row):
    # The arrows to which the heights from the handed ones are these: unlike is each arrow with
    # unlike heights at its two sides.
    known = {OUTER_LAND: 0}
    for land, height in zip(inner_lands(drawing), height_row):
        known[land] = height
    led = []
    for p, q in arrows:
        alike = known[land_left_of(drawing, p, q)] == known[land_left_of(drawing, q, p)]
        led.append((p, q) if alike else (q, p))
    return tuple(sorted(led))


# The heights from the first to the lowest, less those from the second to the lowest, are the
# heights from the first to the second; so the lesser (greater) of both is reached from the first
# by what of these is above (below) 0.
def greatest_below(drawing, one, other):
    return led_by(drawing, one, [max(height, 0) for height in heights(drawing, one, other)])


def least_above(drawing, one, other):
    return led_by(drawing, one, [min(height, 0) for height in heights(drawing, one, other)])
