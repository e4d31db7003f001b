"""Ways from arrows to arrows by rings that are turned, and all arrows of a drawing."""

from threetrees.errors import TooMany
from threetrees.heights import turned_to_end
from threetrees.orders import taken_off
from threetrees.rings import rings, turned


def way_between(drawing, one, other):
    # Both come to the lowest by left rings. From there the way of the other is gone back, and so
    # each of its rings is met as it was left: the other way round, a right one.
    down = turned_to_end(drawing, one, True)[0]
    up = turned_to_end(drawing, other, True)[0]
    # What is alike at both ends would only be turned there and back.
    while len(down) > 0 and len(up) > 0 and down[-1] == up[-1]:
        down.pop()
        up.pop()
    return down + [(a, c, b) for a, b, c in reversed(up)]


def all_arrows(drawing, most):
    # Any arrows are come to from any others by rings, so none is missed.
    found = [taken_off(drawing)[1]]
    k = 0
    while k < len(found):
        beyond = [turned(drawing, found[k], ring) for ring in rings(drawing, found[k])]
        found.extend([arrows for arrows in beyond if arrows not in found])
        if len(found) > most:
            raise TooMany(f"there are more than {most} arrows")
        k += 1
    return sorted(found)
