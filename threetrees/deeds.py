"""Deeds: each makes another drawing of one, and has its back."""

from threetrees.drawings import CORNERS, MOST_PLACES, begun_with_least, inner_lands, is_inner_tie, left_of, tied
from threetrees.errors import NoLand, NoPlace, NoTie, Tied, TooMany


def put_behind(turn, place, new):
    at = turn.index(place) + 1
    return turn[:at] + (new,) + turn[at:]


def without(turn, gone):
    return tuple([q for q in turn if q != gone])


def with_turns(drawing, changes):
    # A turn may lose its least place, or get a lesser one, so each is begun anew.
    return tuple([begun_with_least(changes.get(p, turn)) for p, turn in enumerate(drawing)])


class Deed:
    pass


class Put(Deed):
    def __init__(self, a, b, c):
        self.a = a
        self.b = b
        self.c = c

    def told(self):
        return ("put", self.a, self.b, self.c)

    def refuse(self, drawing):
        if len(drawing) >= MOST_PLACES:
            raise TooMany("there are ten places already")
        if begun_with_least((self.a, self.b, self.c)) not in inner_lands(drawing):
            raise NoLand("there is no such inner land")

    def done(self, drawing):
        self.refuse(drawing)
        new = len(drawing)
        changes = {
            self.a: put_behind(drawing[self.a], self.b, new),
            self.b: put_behind(drawing[self.b], self.c, new),
            self.c: put_behind(drawing[self.c], self.a, new),
        }
        return with_turns(drawing, changes) + (begun_with_least((self.a, self.b, self.c)),)

    def back(self, drawing):
        self.refuse(drawing)
        return Take(len(drawing))


class Take(Deed):
    def __init__(self, p):
        self.p = p

    def told(self):
        return ("take", self.p)

    def refuse(self, drawing):
        if self.p != len(drawing) - 1 or self.p < CORNERS or len(drawing[self.p]) != 3:
            raise NoPlace("only the last place can be taken, an inner one with three ties")

    def done(self, drawing):
        self.refuse(drawing)
        return tuple([without(turn, self.p) for turn in drawing[:self.p]])

    def back(self, drawing):
        self.refuse(drawing)
        turn = drawing[self.p]
        return Put(turn[0], turn[1], turn[2])


class Flip(Deed):
    def __init__(self, p, q):
        self.p = p
        self.q = q

    def told(self):
        return ("flip", self.p, self.q)

    def new_tie(self, drawing):
        if not is_inner_tie(drawing, self.p, self.q):
            raise NoTie("there is no such inner tie")
        r = left_of(drawing, self.p, self.q)
        s = left_of(drawing, self.q, self.p)
        if tied(drawing, r, s):
            raise Tied((r, s))
        return (r, s)

    def done(self, drawing):
        pair = self.new_tie(drawing)
        r = pair[0]
        s = pair[1]
        changes = {
            self.p: without(drawing[self.p], self.q),
            self.q: without(drawing[self.q], self.p),
            r: put_behind(drawing[r], self.p, s),
            s: put_behind(drawing[s], self.q, r),
        }
        return with_turns(drawing, changes)

    def back(self, drawing):
        pair = self.new_tie(drawing)
        return Flip(pair[0], pair[1])


def deed_of(told):
    if told[0] == "put":
        return Put(told[1], told[2], told[3])
    if told[0] == "take":
        return Take(told[1])
    return Flip(told[1], told[2])
