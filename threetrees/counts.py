"""How many pairs of rows there are, and all of them for few inner places."""

from threetrees.errors import TooMany
from threetrees.steps import first_over

MOST_COUNTED = 100
MOST_LISTED = 4


def refuse_beyond(m, most):
    if m < 0 or m > most:
        raise TooMany(f"inner places are taken from 0 to {most}")


def many_pairs(m):
    refuse_beyond(m, MOST_COUNTED)
    c = [1]
    for k in range(m + 2):
        # There is no remainder: each is the count of all rows of k + 1 u.
        c.append(c[k] * (4 * k + 2) // (k + 2))
    return c[m] * c[m + 2] - c[m + 1] * c[m + 1]


def all_rows(m):
    rows = [""]
    for step in range(2 * m):
        up = [row + "u" for row in rows if row.count("u") < m]
        down = [row + "d" for row in rows if row.count("d") < row.count("u")]
        rows = up + down
    return rows


def all_pairs(m):
    refuse_beyond(m, MOST_LISTED)
    rows = all_rows(m)
    pairs = []
    for first in rows:
        pairs.extend([(first, second) for second in rows if first_over(first, second) is None])
    return sorted(pairs)
