"""Papers: what is told of a table as a sum of cuts, looked at again without how it was found."""

from farcuts.cuts import all_cuts, is_weighted, sides_of, table_of
from farcuts.fractions import is_fraction
from farcuts.pairs import distances_of, pairs_of
from farcuts.wholes import shared_bottom, tops_over


def shows_sum(table, cuts):
    n = len(table)
    return is_weighted(n, cuts) and table_of(n, cuts) == table


def is_row_for(n, thing):
    if not isinstance(thing, list) or len(thing) != len(pairs_of(n)):
        return False
    for number in thing:
        if not is_fraction(number):
            return False
    return True


def parted_sum(pairs, tops, sides):
    return sum([top for pair, top in zip(pairs, tops) if sides[pair[0]] != sides[pair[1]]])


def bars_no_cut(n, tops):
    pairs = pairs_of(n)
    for cut in all_cuts(n):
        if parted_sum(pairs, tops, sides_of(n, cut)) < 0:
            return False
    return True


def shows_bars(table, numbers):
    n = len(table)
    if not is_row_for(n, numbers):
        return False
    # Only signs are asked for, so each list may be taken over a bottom of its own.
    tops = tops_over(shared_bottom(numbers), numbers)
    distances = distances_of(table)
    far = tops_over(shared_bottom(distances), distances)
    return sum([a * b for a, b in zip(tops, far)]) < 0 and bars_no_cut(n, tops)


def shows(table, answer):
    if not isinstance(answer, tuple) or len(answer) != 2:
        return False
    if answer[0] == "cuts":
        return shows_sum(table, answer[1])
    return answer[0] == "bars" and shows_bars(table, answer[1])
