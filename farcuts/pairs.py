"""The pairs of points i below j, in order as tuples, and tables as rows of one number for each pair."""

MOST_POINTS = 10


# How many points there may be where a point of the document bounds it, and not only what is handed in.
def is_point_count(n):
    return 1 <= n <= MOST_POINTS


def rising_tuples(n, many):
    begun = [()]
    for step in range(many):
        grown = []
        for points in begun:
            least = points[-1] + 1 if len(points) > 0 else 0
            grown.extend([points + (point,) for point in range(least, n)])
        begun = grown
    return begun


def pairs_of(n):
    pairs = []
    for i in range(n):
        for j in range(i + 1, n):
            pairs.append((i, j))
    return pairs


def table_of_pairs(n, distances):
    table = [[(0, 1)] * n for point in range(n)]
    for pair, distance in zip(pairs_of(n), distances):
        table[pair[0]][pair[1]] = distance
        table[pair[1]][pair[0]] = distance
    return table


def distances_of(table):
    return [table[i][j] for i, j in pairs_of(len(table))]
