"""Webs: points with roads between them, and whether each road halves the web."""

from farcuts.cuts import cut_of, is_rising
from farcuts.errors import NoWeb
from farcuts.pairs import is_point_count, pairs_of


def check_roads(n, roads):
    if not is_point_count(n):
        raise NoWeb("a web has one to ten points")
    for a, b in roads:
        if not 0 <= a < b < n:
            raise NoWeb("a road goes from a point to one of a greater number")
    if not is_rising(roads):
        raise NoWeb("the roads of a web are sorted, each once")


def beside_each(n, roads):
    beside = [[] for point in range(n)]
    for a, b in roads:
        beside[a].append(b)
        beside[b].append(a)
    return beside


def steps_from(beside, start):
    steps = {start: 0}
    edge = [start]
    while len(edge) > 0:
        beyond = []
        for point in edge:
            for other in beside[point]:
                if other not in steps:
                    steps[other] = steps[point] + 1
                    beyond.append(other)
        edge = beyond
    return steps


# How many roads the shortest way has, as rows of whole numbers.
def web_rows(n, roads):
    check_roads(n, roads)
    beside = beside_each(n, roads)
    rows = []
    for start in range(n):
        steps = steps_from(beside, start)
        if len(steps) < n:
            raise NoWeb("some point of the web cannot be come to")
        rows.append([steps[point] for point in range(n)])
    return rows


def web_table(n, roads):
    table = []
    for row in web_rows(n, roads):
        table.append([(far, 1) for far in row])
    return table


def first_even(rows, roads):
    for a, b in roads:
        for x in range(len(rows)):
            if rows[a][x] == rows[b][x]:
                return (a, b, x)
    return None


# For each point whether it is of the far side, of roads to which no point is even.
def far_sides(rows, a, b):
    return [rows[b][x] < rows[a][x] for x in range(len(rows))]


def first_leaving(rows, sides):
    n = len(rows)
    for x, y in pairs_of(n):
        if sides[x] == sides[y]:
            for z in range(n):
                if sides[z] != sides[x] and rows[x][z] + rows[z][y] == rows[x][y]:
                    return (x, y, z)
    return None


def first_not_whole(rows, roads):
    for a, b in roads:
        leaving = first_leaving(rows, far_sides(rows, a, b))
        if leaving is not None:
            return (a, b) + leaving
    return None


def halving_cuts(rows, roads):
    cuts = []
    for a, b in roads:
        cut = cut_of(len(rows), [x for x, is_far in enumerate(far_sides(rows, a, b)) if is_far])
        if cut not in cuts:
            cuts.append(cut)
    return sorted(cuts)


def word_of(point, cuts):
    return "".join(["1" if point in cut else "0" for cut in cuts])


def halved_told(n, roads):
    rows = web_rows(n, roads)
    even = first_even(rows, roads)
    if even is not None:
        return ("even", even)
    not_whole = first_not_whole(rows, roads)
    if not_whole is not None:
        return ("not whole", not_whole)
    cuts = halving_cuts(rows, roads)
    return ("halves", [word_of(point, cuts) for point in range(n)])


def is_word(text, length):
    return len(text) == length and text.count("0") + text.count("1") == length


def check_words(words):
    if not is_point_count(len(words)) or len(set(words)) < len(words):
        raise NoWeb("a web is made of one to ten words, none twice")
    for word in words:
        if not is_word(word, len(words[0])):
            raise NoWeb("words are of signs 0 and 1, all of one length")


def unlike_signs(word, other):
    return len([sign for sign, beside in zip(word, other) if sign != beside])


def web_of_words(words):
    check_words(words)
    n = len(words)
    roads = [(i, j) for i, j in pairs_of(n) if unlike_signs(words[i], words[j]) == 1]
    # The rows are not told, but where some cannot be made it is no web.
    web_rows(n, roads)
    return (n, roads)
