"""Tables that are a sum of cuts in one way only, and cuts that stand alone."""

from farcuts.pairs import pairs_of
from farcuts.sums import check_many, parted_pairs, possible_cuts, sum_told, sum_with
from farcuts.weighing import Scales

MOST_POINTS = 5


# Cuts are asked about as they are; where they come with their weights these have no say.
def bare_cut(thing):
    return thing[0] if isinstance(thing, tuple) else thing


def stand_alone(n, cuts):
    pairs = len(pairs_of(n))
    # Each cut that stands alone takes the place of a pair of its own.
    if len(cuts) > pairs:
        return False
    scales = Scales([parted_pairs(n, bare_cut(cut)) for cut in cuts], [0] * pairs)
    for number in range(len(cuts)):
        if not scales.put_for_filler(number):
            return False
    return True


# The cuts of the sum found first stand alone. So where all that are possible do not, one of these is not among them.
def other_sum(table, cuts, possible):
    own = [weighted[0] for weighted in cuts]
    further = [cut for cut in possible if cut not in own]
    return sum_with(table, further[0])


def one_way(table):
    check_many(table, MOST_POINTS)
    told = sum_told(table)
    if told[0] == "bars":
        return ("none",)
    possible = possible_cuts(table)
    if stand_alone(len(table), possible):
        return ("one", told[1])
    return ("several", told[1], other_sum(table, told[1], possible))
