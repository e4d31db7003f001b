"""The desk: a drawing with arrows lies on it, and lines change it, or ask."""

from threetrees.colours import outs_of
from threetrees.deeds import deed_of
from threetrees.errors import NoLine, NothingDone
from threetrees.fields import field
from threetrees.heights import highest, lowest
from threetrees.numbers import numbers
from threetrees.rings import is_left, rings, turned
from threetrees.steps import rows_of
from threetrees.texts import FIGURES, drawing_read, drawing_text, figures_text
from threetrees.ways import all_arrows

BARE = ((1, 2), (0, 2), (0, 1))
MOST_ARROWS = 400


# All that is told of what lies there is asked in one form, so that one table names it.
def told_drawing(drawing, arrows):
    return [drawing_text(drawing)]


def told_outs(drawing, arrows):
    return [" ".join([figures_text(triple) for triple in outs_of(drawing, arrows)])]


def ring_text(drawing, ring):
    return figures_text(ring) + ("l" if is_left(drawing, ring) else "r")


def told_rings(drawing, arrows):
    return [ring_text(drawing, ring) for ring in rings(drawing, arrows)]


def told_rows(drawing, arrows):
    return ["/".join(rows_of(drawing, outs_of(drawing, arrows)))]


def told_numbers(drawing, arrows):
    triples = numbers(drawing, outs_of(drawing, arrows))
    return [",".join([str(number) for number in triple]) for triple in triples]


def told_field(drawing, arrows):
    return field(drawing, outs_of(drawing, arrows))


def told_count(drawing, arrows):
    return [str(len(all_arrows(drawing, MOST_ARROWS)))]


ASKS = {
    "show": told_drawing,
    "outs": told_outs,
    "rings": told_rings,
    "rows": told_rows,
    "numbers": told_numbers,
    "field": told_field,
    "all": told_count,
}
# How many figures stand behind the word of a line that changes; draw alone has a text there.
CHANGES = {"put": 3, "take": 1, "flip": 2, "ring": 3, "low": 0, "high": 0, "undo": 0}
ARROW_WORDS = ("ring", "low", "high")


def is_figure(word):
    # The length is looked at too, as the empty word and 12 are in the figures as well.
    return len(word) == 1 and word in FIGURES


def words_of(line):
    words = line.split(" ")
    if words[0] == "draw" and len(words) > 1:
        return [words[0], line.partition(" ")[2]]
    many = 0 if words[0] in ASKS else CHANGES.get(words[0])
    if len(words) - 1 != many or not all([is_figure(word) for word in words[1:]]):
        raise NoLine("there is no such line")
    return words


def places_told(words):
    return tuple([int(word) for word in words[1:]])


def drawing_made(drawing, words):
    if words[0] == "draw":
        return drawing_read(words[1])
    return deed_of((words[0],) + places_told(words)).done(drawing)


def arrows_made(drawing, arrows, words):
    if words[0] == "low":
        return lowest(drawing)
    if words[0] == "high":
        return highest(drawing)
    return turned(drawing, arrows, places_told(words))


class Desk:
    def __init__(self):
        # All that lay there and can lie there again, each a drawing with arrows; the last lies there now.
        self.laid = [(BARE, ())]

    def drawing(self):
        return self.laid[-1][0]

    def arrows(self):
        return self.laid[-1][1]

    def steps(self):
        return len(self.laid) - 1

    def undo(self):
        if self.steps() == 0:
            raise NothingDone("nothing is left to undo")
        self.laid.pop()
        return told_drawing(self.drawing(), self.arrows()) + told_outs(self.drawing(), self.arrows())

    def tell(self, line):
        words = words_of(line)
        if words[0] in ASKS:
            return ASKS[words[0]](self.drawing(), self.arrows())
        if words[0] == "undo":
            return self.undo()
        if words[0] in ARROW_WORDS:
            made = arrows_made(self.drawing(), self.arrows(), words)
            self.laid.append((self.drawing(), made))
            return told_outs(self.drawing(), self.arrows())
        drawn = drawing_made(self.drawing(), words)
        self.laid.append((drawn, lowest(drawn)))
        return told_drawing(self.drawing(), self.arrows())
