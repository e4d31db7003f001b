"""The field: a drawing with outs, its places set down as signs at their points."""

from threetrees.numbers import points

EMPTY_SIGN = "."


def row_text(signs, y, size):
    return "".join([signs.get((x, y), EMPTY_SIGN) for x in range(size)])


def field(drawing, outs):
    size = 2 * len(drawing) - 4
    signs = {}
    for place, point in enumerate(points(drawing, outs)):
        signs[point] = str(place)
    return [row_text(signs, y, size) for y in range(size - 1, -1, -1)]
