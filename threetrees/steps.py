"""Rows of steps: a drawing with outs told by two texts of u and d, and led back from these."""

from threetrees.colours import COLOURS, out_of
from threetrees.drawings import CORNERS, begun_with_least
from threetrees.errors import NoRows
from threetrees.trees import children, walk

MOST_UPS = 7


def first_row_from(drawing, outs, place):
    row = ""
    for child in children(drawing, outs, place, 0):
        row += "u" + first_row_from(drawing, outs, child) + "d"
    return row


def second_row(drawing, outs):
    row = ""
    for place in walk(drawing, outs, 0):
        coming = [triple for triple in outs if triple[2] == place]
        row += "d" * len(coming) + "u"
    return row + "d" * (len(outs) - row.count("d"))


def rows_of(drawing, outs):
    return (first_row_from(drawing, outs, 0), second_row(drawing, outs))


def fault_in_row(row):
    ups = 0
    downs = 0
    for k, sign in enumerate(row):
        ups += int(sign == "u")
        downs += int(sign == "d")
        if sign not in ("u", "d") or ups > MOST_UPS or downs > ups:
            return k
    return len(row) if downs < ups else None


def downs_ahead(row):
    return [row[:k].count("d") for k, sign in enumerate(row) if sign == "u"]


def first_over(first, second):
    for i, ahead in enumerate(zip(downs_ahead(first), downs_ahead(second))):
        if ahead[1] > ahead[0]:
            return i
    return None


def fault_of_rows(first, second):
    for word, row in (("first", first), ("second", second)):
        at = fault_in_row(row)
        if at is not None:
            return (word, at)
    if len(second) != len(first):
        return ("length", len(second))
    over = first_over(first, second)
    return None if over is None else ("over", over)


class Growth:
    def __init__(self):
        self.unshut = [0]
        self.heap = [1]
        # For each inner place the ends of its three arrows; that of colour 2 is known last.
        self.ends = []
        # The order in which places were taken from the heap settles turns.
        self.taken = []

    def take(self, many, end):
        for again in range(many):
            place = self.heap.pop()
            self.ends[place - CORNERS][2] = end
            self.taken.append(place)

    def come(self, many):
        place = CORNERS + len(self.ends)
        self.take(many, place)
        self.ends.append([self.unshut[-1], self.heap[-1], None])
        self.unshut.append(place)

    def leave(self):
        self.heap.append(self.unshut.pop())


def grown(first, second):
    # Cut at each u the second row has, under the number of a u, the d that stand right ahead of it.
    downs = second.split("u")
    growth = Growth()
    for sign in first:
        if sign == "u":
            growth.come(len(downs[len(growth.ends)]))
        else:
            growth.leave()
    growth.take(len(growth.heap) - 1, 2)
    return growth


def turn_of(outs, coming, place):
    # Coming has for each colour the inner places in the order in which one meets them where their
    # arrows of this colour come to one place.
    around = []
    for colour in range(COLOURS):
        around.append([q for q in coming[colour] if out_of(outs, q, colour) == place])
    if place < CORNERS:
        return [(place + 1) % CORNERS] + around[place] + [(place + 2) % CORNERS]
    triple = outs[place - CORNERS]
    return [triple[0]] + around[2] + [triple[1]] + around[0] + [triple[2]] + around[1]


def of_rows(first, second):
    fault = fault_of_rows(first, second)
    if fault is not None:
        raise NoRows(fault[0], fault[1])
    growth = grown(first, second)
    outs = tuple([tuple(ends) for ends in growth.ends])
    n = CORNERS + len(outs)
    coming = (list(range(CORNERS, n)), list(range(n - 1, CORNERS - 1, -1)), growth.taken)
    turns = [turn_of(outs, coming, place) for place in range(n)]
    return (tuple([begun_with_least(tuple(turn)) for turn in turns]), outs)
