"""What several tests need: tables and cuts to ask about, and looks at what is told."""

import copy
import itertools
import math
import random
import unittest
from fractions import Fraction

FORTY = 10 ** 40 - 1
FIFTY = 10 ** 50 - 1


def pair(exact):
    return (exact.numerator, exact.denominator)


def built(n, distance):
    rows = []
    for i in range(n):
        rows.append([pair(Fraction(distance(min(i, j), max(i, j)))) if i != j else (0, 1) for j in range(n)])
    return rows


def of_pairs(n, numbers):
    """The table with these distances, whole or not, for the pairs in order."""
    by_pair = dict(zip(itertools.combinations(range(n), 2), numbers))
    return built(n, lambda i, j: by_pair[i, j])


def line(n):
    return built(n, lambda i, j: j - i)


def mixed(n, seed=1):
    """Distances between 1 and 2, so that no way round is shorter."""
    return built(n, lambda i, j: 1 + Fraction((7 * i + 11 * j * j + seed) % 30, 30 + i + seed))


def wild(n, seed=1):
    """Distances of all sizes, nought among them, so mostly no long table."""
    return built(n, lambda i, j: Fraction((5 * i * i + 3 * j * seed + i * j) % 17, 1 + (i + j + seed) % 4))


def huge(n):
    return built(n, lambda i, j: FIFTY - i + Fraction(j, FIFTY - 2))


def nought(n):
    return built(n, lambda i, j: 0)


def many_tables():
    found = []
    for n in range(1, 11):
        found += [line(n), mixed(n), mixed(n, 4), wild(n), wild(n, 3), huge(n), nought(n)]
    return found


def changed(table, i, j, thing, both=True):
    rows = copy.deepcopy(table)
    rows[i][j] = thing
    if both:
        rows[j][i] = thing
    return rows


def moved(table, i, j, by):
    """The table with one distance greater by the fraction of Python's own."""
    return changed(table, i, j, pair(Fraction(*table[i][j]) + by))


def sides(n):
    """All cuts of n points, made another way than the program makes them."""
    found = []
    for many in range(1, n):
        found += [list(side) for side in itertools.combinations(range(1, n), many)]
    return sorted(found)


def parts(cut, i, j):
    return (i in cut) != (j in cut)


def summed(n, cuts):
    """The table of weighted cuts, by Python's own fractions."""
    return built(n, lambda i, j: sum([Fraction(*weight) for cut, weight in cuts if parts(cut, i, j)], Fraction(0)))


def cross(n, cut, other):
    return len({(i in cut, i in other) for i in range(n)}) == 4


def drawn_weight(chance):
    kind = chance.randrange(4)
    if kind == 0:
        return (chance.randrange(1, 5), 1)
    if kind == 1:
        return pair(Fraction(chance.randrange(1, 30), chance.randrange(1, 12)))
    if kind == 2:
        return (chance.randrange(10 ** 39, 10 ** 40), 1)
    return pair(Fraction(chance.randrange(1, 10 ** 40), FORTY - chance.randrange(3)))


def drawn_cuts(chance, n, many, plain=False):
    """Weighted cuts of n points, as many as asked for or all there are."""
    chosen = sides(n)
    chosen = sorted(chance.sample(chosen, min(many, len(chosen))))
    return [(cut, (chance.randrange(1, 9), 1) if plain else drawn_weight(chance)) for cut in chosen]


def drawn_tree(chance, n, plain=False):
    """Weighted cuts of which no two cross, drawn one behind the other."""
    chosen = []
    for cut in chance.sample(sides(n), len(sides(n))):
        if not any(cross(n, cut, other) for other in chosen) and chance.randrange(6):
            chosen.append(cut)
    return [(cut, (chance.randrange(1, 9), 1) if plain else drawn_weight(chance)) for cut in sorted(chosen)]


def at_odds(n, one, other, third):
    """Whether four unlike points are parted by the three cuts in the three ways there are, by the words of [21]."""
    def found(first, same, *unlike):
        """Whether a point lies with the first one in one cut, and parted from it by both others."""
        return any(
            not parts(same, first, point) and all(parts(cut, first, point) for cut in unlike) for point in range(n)
        )
    return any(
        found(w, one, other, third) and found(w, other, one, third) and found(w, third, one, other) for w in range(n)
    )


def drawn_not_at_odds(chance, n, plain=False):
    """Weighted cuts of which no three are at odds, drawn one behind the other."""
    chosen = []
    for cut in chance.sample(sides(n), len(sides(n))):
        if not any(at_odds(n, cut, *two) for two in itertools.combinations(chosen, 2)) and chance.randrange(4):
            chosen.append(cut)
    return [(cut, (chance.randrange(1, 9), 1) if plain else drawn_weight(chance)) for cut in sorted(chosen)]


def drawn_ring(chance, n):
    order = [0] + chance.sample(range(1, n), n - 1)
    return order if order[1] < order[-1] else [0] + order[:0:-1]


def ring_cuts(ring):
    """The ring's cuts by their two gaps."""
    gaps = itertools.combinations(range(len(ring)), 2)
    return {(a, b): sorted(ring[a + 1:b + 1]) for a, b in gaps}


def drawn_table(chance, n, most=6):
    return of_pairs(n, [chance.randrange(most + 1) for one in itertools.combinations(range(n), 2)])


def bar_products(n, numbers):
    """For each pair the product of the two points' numbers. Where these, whole ones, add up to 1, each cut's parted
    products add up to 0 or less: the sum over a side is whole, s say, and they add up to s * (1 - s)."""
    numbers = list(numbers) + [0] * (n - len(numbers))
    return [numbers[i] * numbers[j] for i, j in itertools.combinations(range(n), 2)]


def drawn_long(chance, n):
    """Distances from 6 to 12, some thirds: no way round is shorter."""
    return of_pairs(n, [Fraction(chance.randrange(18, 37), 3) for one in itertools.combinations(range(n), 2)])


def chance_of(seed):
    return random.Random(seed)


def lists_in(thing):
    """Each list in a thing, at whatever depth, also where one stands twice."""
    found = [thing] if isinstance(thing, list) else []
    if isinstance(thing, (list, tuple)):
        for part in thing:
            found += lists_in(part)
    return found


def spoil(thing):
    for one in lists_in(thing):
        one.insert(0, "spoilt")
        one.append("spoilt")


class AskCase(unittest.TestCase):
    def check_kinds(self, thing):
        """Plain lists, tuples, texts, whole numbers that are no truths, and None."""
        self.assertIn(type(thing), (list, tuple, int, str, type(None)))
        if isinstance(thing, (list, tuple)):
            for part in thing:
                self.check_kinds(part)

    def check_new(self, told, *handed):
        """Each list told is a plain new one: none is another one, none was handed in."""
        self.check_kinds(told)
        lists = lists_in(told)
        self.assertEqual(len({id(one) for one in lists}), len(lists))
        self.assertFalse({id(one) for one in lists} & {id(one) for one in lists_in(handed)})

    def check_free_of_what_was_told(self, ask, *handed):
        """Neither a change of what was told nor of what was handed in changes anything told."""
        kept = copy.deepcopy(handed)
        handed = copy.deepcopy(handed)
        first = ask(*handed)
        self.check_new(first, *handed)
        due = copy.deepcopy(first)
        second = ask(*handed)
        self.assertEqual(second, due)
        self.assertEqual(handed, kept)
        lists = lists_in(first) + lists_in(second)
        self.assertEqual(len({id(one) for one in lists}), len(lists))
        spoil(first)
        self.assertEqual(handed, kept)
        self.assertEqual(second, due)
        self.assertEqual(ask(*handed), due)
        spoil(handed)
        self.assertEqual(second, due)
        self.assertEqual(ask(*kept), due)

    def asked(self, ask, *handed):
        """What is told, behind a look that it is new and plain and that all that was handed in stays."""
        kept = copy.deepcopy(handed)
        told = ask(*handed)
        self.assertEqual(handed, kept)
        self.check_new(told, *handed)
        return told

    def check_refused(self, error, ask, *handed):
        kept = copy.deepcopy(handed)
        with self.assertRaises(error) as caught:
            ask(*handed)
        self.assertIs(type(caught.exception), error)
        self.assertEqual(handed, kept)

    def check_fraction(self, thing):
        self.assertIs(type(thing), tuple)
        self.assertEqual([type(part) for part in thing], [int, int])
        self.assertGreaterEqual(thing[1], 1)
        self.assertEqual(math.gcd(*thing), 1)

    def check_weighted(self, n, thing):
        """Weighted cuts as [10] tells them, looked at without the program."""
        self.assertIs(type(thing), list)
        cuts = []
        for weighted in thing:
            self.assertIs(type(weighted), tuple)
            self.assertEqual(len(weighted), 2)
            self.assertIs(type(weighted[0]), list)
            self.assertIn(weighted[0], sides(n))
            self.check_fraction(weighted[1])
            self.assertGreater(weighted[1][0], 0)
            cuts.append(weighted[0])
        self.assertEqual(cuts, sorted(cuts))
        self.assertEqual(len({tuple(cut) for cut in cuts}), len(cuts))
