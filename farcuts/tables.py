"""Tables: how far some points are from one another."""

from farcuts.errors import NoNumber, NoPoint, NoTable
from farcuts.fractions import is_below, is_fraction, plus, times


def is_distance(thing):
    return is_fraction(thing) and thing[0] >= 0


def is_row(thing, n):
    if not isinstance(thing, list) or len(thing) != n:
        return False
    for cell in thing:
        if not is_distance(cell):
            return False
    return True


def is_alike_both_ways(rows):
    for i in range(len(rows)):
        if rows[i][i] != (0, 1):
            return False
        for j in range(i):
            if rows[i][j] != rows[j][i]:
                return False
    return True


def is_table(thing):
    if not isinstance(thing, list) or len(thing) == 0:
        return False
    for row in thing:
        if not is_row(row, len(thing)):
            return False
    # Only now is each cell a fraction: before, (True, 1) would pass for (1, 1).
    return is_alike_both_ways(thing)


def is_short_by(table, i, j, k):
    return is_below(plus(table[i][j], table[j][k]), table[i][k])


def first_short(table):
    n = len(table)
    for i in range(n):
        for j in range(n):
            for k in range(n):
                # Where two of the three are one point no way is shorter, so unlike needs no asking.
                if is_short_by(table, i, j, k):
                    return (i, j, k)
    return None


def is_point(table, point):
    # Python would take a number below 0 as a place from the end.
    return 0 <= point < len(table)


def is_part(table, points):
    for point in points:
        if not is_point(table, point):
            return False
    return len(points) > 0 and len(set(points)) == len(points)


def part_of(table, points):
    if not is_part(table, points):
        raise NoPoint("a part is of unlike points of the table, one at least")
    part = []
    for point in points:
        part.append([table[point][other] for other in points])
    return part


def added(table, other):
    if len(table) != len(other):
        raise NoTable("the two tables have not as many points")
    together = []
    for row, other_row in zip(table, other):
        together.append([plus(q, r) for q, r in zip(row, other_row)])
    return together


def times_table(q, table):
    if is_below(q, (0, 1)):
        raise NoNumber("a table is not taken times a fraction below 0")
    grown = []
    for row in table:
        grown.append([times(q, r) for r in row])
    return grown


def hung_together(table, point, other, other_point):
    if not is_point(table, point) or not is_point(other, other_point):
        raise NoPoint("tables are hung together at a point of each")
    behind = [b for b in range(len(other)) if b != other_point]
    hung = []
    for row in table:
        across = [plus(row[point], other[other_point][b]) for b in behind]
        hung.append(list(row) + across)
    for b in behind:
        across = [plus(other[b][other_point], r) for r in table[point]]
        hung.append(across + [other[b][c] for c in behind])
    return hung
