"""Rings: tables as sums of the cuts of points that stand in a ring."""

from farcuts.errors import NoOrder
from farcuts.fractions import fraction, is_whole
from farcuts.pairs import pairs_of
from farcuts.wholes import table_bottom, table_over


def is_ring(n, ring):
    for point in ring:
        if not is_whole(point):
            return False
    if n < 3 or sorted(ring) != list(range(n)):
        return False
    return ring[0] == 0 and ring[1] < ring[-1]


def check_ring(n, ring):
    if not is_ring(n, ring):
        raise NoOrder("a ring has all points, three at least, each once, from 0 on, the second below the last")


def check_gaps(n, a, b):
    if not 0 <= a < b < n:
        raise NoOrder("two gaps of the ring, the first below the second, make a cut")


def twice_weight(rows, ring, a, b):
    x = ring[a]
    p = ring[a + 1]
    y = ring[b]
    # Behind the last place the ring begins again.
    q = ring[(b + 1) % len(rows)]
    return rows[x][y] + rows[p][q] - rows[x][q] - rows[p][y]


def ring_weight(table, ring, a, b):
    check_ring(len(table), ring)
    check_gaps(len(table), a, b)
    bottom = table_bottom(table)
    return fraction(twice_weight(table_over(bottom, table), ring, a, b), 2 * bottom)


def ring_told(table, ring):
    check_ring(len(table), ring)
    bottom = table_bottom(table)
    rows = table_over(bottom, table)
    weighted = []
    for a, b in pairs_of(len(table)):
        twice = twice_weight(rows, ring, a, b)
        if twice < 0:
            return ("bars", (a, b))
        if twice > 0:
            weighted.append((sorted(ring[a + 1:b + 1]), fraction(twice, 2 * bottom)))
    return ("ring", sorted(weighted))


def fits_gap(rows, ring, b):
    for a in range(b):
        if twice_weight(rows, ring, a, b) < 0:
            return False
    return True


def first_grown(rows, begun):
    n = len(rows)
    if len(begun) == n:
        return begun if begun[1] < begun[-1] and fits_gap(rows, begun, n - 1) else None
    for point in range(1, n):
        # The gap ahead of the new point is closed by it, so a wrong beginning is left early.
        if point not in begun and fits_gap(rows, begun + [point], len(begun) - 1):
            found = first_grown(rows, begun + [point])
            if found is not None:
                return found
    return None


def first_ring(table):
    if len(table) < 3:
        return None
    return first_grown(table_over(table_bottom(table), table), [0])
