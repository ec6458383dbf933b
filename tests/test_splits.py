"""Points [19], [20], [21], and [2], [3] as far as they reach splits."""

import itertools
import unittest
from fractions import Fraction

from helping import FIFTY, FORTY, AskCase, at_odds, built, chance_of, drawn_cuts, drawn_long, drawn_not_at_odds
from helping import drawn_ring, drawn_tree, drawn_weight, huge, line, mixed, moved, nought, of_pairs, pair, ring_cuts
from helping import sides, summed

from farcuts.errors import NoTable
from farcuts.splits import cut_index, first_at_odds, rest_table, splits_of
from farcuts.tables import added, first_short, is_table
from farcuts.trees import tree_told

# Two points, each one road from each of three others: long, but no cut has an index in it.
TWO_AND_THREE = of_pairs(5, [2, 2, 1, 1, 2, 1, 1, 1, 1, 2])


def due_index(table, cut):
    def far(i, j):
        return Fraction(*table[i][j])
    others = [point for point in range(len(table)) if point not in cut]
    gains = []
    for a, b in itertools.product(cut, repeat=2):
        for c, e in itertools.product(others, repeat=2):
            sums = (far(a, b) + far(c, e), far(a, c) + far(b, e), far(a, e) + far(b, c))
            gains.append(max(sums) - sums[0])
    return pair(min(gains) / 2)


def long_tables(chance, most=8):
    found = []
    for n in range(1, most + 1):
        found += [line(n), mixed(n), nought(n), drawn_long(chance, n), summed(n, drawn_cuts(chance, n, 5))]
        found += [summed(n, drawn_cuts(chance, n, 12)), summed(n, drawn_tree(chance, n)), built(n, lambda i, j: FORTY)]
    found += [TWO_AND_THREE, added(TWO_AND_THREE, line(5)), added(TWO_AND_THREE, built(5, lambda i, j: 1))]
    return found


def short_tables():
    found = []
    for n in range(3, 11):
        found += [moved(line(n), 0, n - 1, Fraction(1, FIFTY)), moved(nought(n), n - 2, n - 1, Fraction(1))]
    return found


class Indices(AskCase):
    def check_told(self, table, cut):
        told = self.asked(cut_index, table, cut)
        self.check_fraction(told)
        self.assertEqual(told, due_index(table, cut))
        self.assertGreaterEqual(told[0], 0)
        return told

    def test_every_cut_of_small_tables(self):
        for table in long_tables(chance_of(70), 6):
            for cut in sides(len(table)):
                self.check_told(table, cut)

    def test_ten_points(self):
        chance = chance_of(71)
        for table in (line(10), drawn_long(chance, 10), summed(10, drawn_tree(chance, 10)), huge(10)):
            for cut in ([1], [9], [4, 5, 6, 7, 8, 9], [1, 2, 3, 4, 5], [1, 3, 5, 7, 9], list(range(1, 10))):
                self.check_told(table, cut)

    def test_by_hand(self):
        self.assertEqual(cut_index(of_pairs(2, [Fraction(FORTY, 7)]), [1]), (FORTY, 7))
        self.assertEqual(cut_index(of_pairs(3, [3, 4, 5]), [1]), (2, 1))
        self.assertEqual(cut_index(of_pairs(3, [3, 4, 5]), [1, 2]), (1, 1))
        self.assertEqual(cut_index(of_pairs(3, [3, 4, 5]), [2]), (3, 1))
        square = of_pairs(4, [1, 2, 1, 1, 2, 1])
        self.assertEqual(cut_index(square, [1, 2]), (1, 1))
        self.assertEqual(cut_index(square, [2, 3]), (1, 1))
        self.assertEqual(cut_index(square, [1, 3]), (0, 1))
        self.assertEqual(cut_index(square, [1]), (0, 1))
        for cut in sides(5):
            self.assertEqual(cut_index(TWO_AND_THREE, cut), (0, 1))

    def test_of_short_ones_refused(self):
        for table in short_tables():
            for cut in ([1], [len(table) - 1], [1, 2]):
                self.check_refused(NoTable, cut_index, table, cut)

    def test_ahead_of_all_else(self):
        for table in short_tables():
            for cut in ([], [0], [len(table)], [2, 1], [1, 1], [-1]):
                self.check_refused(NoTable, cut_index, table, cut)


class SplitsAndRests(AskCase):
    def check_told(self, table):
        n = len(table)
        splits = self.asked(splits_of, table)
        self.check_weighted(n, splits)
        due = [(cut, due_index(table, cut)) for cut in sides(n)]
        self.assertEqual(splits, [(cut, weight) for cut, weight in due if weight[0] > 0])
        rest = self.asked(rest_table, table)
        self.assertIs(is_table(rest), True)
        self.assertEqual(added(summed(n, splits), rest), table)
        self.assertIsNone(first_short(rest))
        for cut in sides(n):
            self.assertEqual(due_index(rest, cut), (0, 1))
        self.assertEqual(splits_of(rest), [])
        self.assertEqual(rest_table(rest), rest)
        for one, other, third in itertools.combinations([cut for cut, weight in splits], 3):
            self.assertFalse(at_odds(n, one, other, third))
        return splits

    def test_long_tables(self):
        found = []
        for table in long_tables(chance_of(72), 7):
            self.check_told(table)
            found.append(rest_table(table) == nought(len(table)))
        self.assertGreater(found.count(True), 20)
        self.assertGreater(found.count(False), 5)

    def test_cuts_of_which_no_three_are_at_odds_come_back(self):
        chance = chance_of(73)
        for n in range(1, 7):
            for turn in range(4):
                cuts = drawn_not_at_odds(chance, n)
                self.assertEqual(self.asked(splits_of, summed(n, cuts)), cuts)
                self.assertEqual(self.asked(rest_table, summed(n, cuts)), nought(n))

    def test_cuts_of_rings_and_trees_come_back(self):
        chance = chance_of(74)
        for n in range(3, 11):
            ring = drawn_ring(chance, n)
            cuts = sorted((cut, drawn_weight(chance)) for cut in ring_cuts(ring).values() if chance.randrange(3))
            self.assertEqual(splits_of(summed(n, cuts)), cuts)
            self.assertEqual(rest_table(summed(n, cuts)), nought(n))
            cuts = drawn_tree(chance, n)
            self.assertEqual(splits_of(summed(n, cuts)), tree_told(summed(n, cuts))[1])
            self.assertEqual(rest_table(summed(n, cuts)), nought(n))

    def test_eight_to_ten_points(self):
        chance = chance_of(75)
        self.check_told(summed(8, drawn_cuts(chance, 8, 9)))
        for n in (9, 10):
            for table in (drawn_long(chance, n), summed(n, drawn_cuts(chance, n, 7))):
                splits = self.asked(splits_of, table)
                self.check_weighted(n, splits)
                rest = self.asked(rest_table, table)
                self.assertEqual(added(summed(n, splits), rest), table)
                self.assertIsNone(first_short(rest))
                self.assertEqual(splits_of(rest), [])
                self.assertIsNone(first_at_odds(n, splits))

    def test_by_hand(self):
        self.assertEqual(splits_of([[(0, 1)]]), [])
        self.assertEqual(rest_table([[(0, 1)]]), [[(0, 1)]])
        self.assertEqual(splits_of(of_pairs(2, [Fraction(1, 3)])), [([1], (1, 3))])
        self.assertEqual(rest_table(of_pairs(2, [Fraction(1, 3)])), nought(2))
        self.assertEqual(splits_of(of_pairs(4, [1, 2, 1, 1, 2, 1])), [([1, 2], (1, 1)), ([2, 3], (1, 1))])
        self.assertEqual(splits_of(TWO_AND_THREE), [])
        self.assertEqual(rest_table(TWO_AND_THREE), TWO_AND_THREE)
        # All three cuts of two and two, alike heavy: all 2 apart, which the single points part.
        table = summed(4, [([1, 2], (1, 1)), ([1, 3], (1, 1)), ([2, 3], (1, 1))])
        self.assertEqual(splits_of(table), [([1], (1, 1)), ([1, 2, 3], (1, 1)), ([2], (1, 1)), ([3], (1, 1))])
        # What is added to a rest as a tree comes off again.
        star = [([1], (1, 2)), ([1, 2, 3, 4], (1, 2)), ([2], (1, 2)), ([3], (1, 2)), ([4], (1, 2))]
        self.assertEqual(splits_of(added(TWO_AND_THREE, summed(5, star))), star)
        self.assertEqual(rest_table(added(TWO_AND_THREE, summed(5, star))), TWO_AND_THREE)

    def test_short_ones_are_refused(self):
        for table in short_tables():
            self.check_refused(NoTable, splits_of, table)
            self.check_refused(NoTable, rest_table, table)

    def test_told_lists_are_the_askers_own(self):
        for table in (nought(1), nought(4), line(5), mixed(6), TWO_AND_THREE, added(TWO_AND_THREE, line(5))):
            self.check_free_of_what_was_told(splits_of, table)
            self.check_free_of_what_was_told(rest_table, table)


class AtOdds(AskCase):
    def due(self, n, cuts):
        for places in itertools.combinations(range(len(cuts)), 3):
            if at_odds(n, *[cuts[place][0] for place in places]):
                return places
        return None

    def check_told(self, n, cuts):
        told = self.asked(first_at_odds, n, cuts)
        self.assertEqual(told, self.due(n, cuts))
        if told is not None:
            self.assertIs(type(told), tuple)
            self.assertEqual([type(place) for place in told], [int] * 3)
        return told

    def test_each_three_of_up_to_five_points(self):
        for n in (2, 3, 4, 5):
            for three in itertools.combinations(sides(n), 3):
                self.check_told(n, [(cut, (1, 1)) for cut in three])

    def test_drawn_ones(self):
        chance = chance_of(76)
        found = []
        for n in range(1, 8):
            for many in (0, 1, 2, 3, 5, 8):
                for turn in range(3):
                    found.append(self.check_told(n, drawn_cuts(chance, n, many)))
        self.assertGreater(found.count(None), 30)
        self.assertGreater(len(found) - found.count(None), 10)

    def test_none_at_odds(self):
        chance = chance_of(77)
        for n in range(3, 11):
            cuts = sorted((cut, (1, 1)) for cut in ring_cuts(drawn_ring(chance, n)).values())
            self.assertIsNone(first_at_odds(n, cuts))
            self.assertIsNone(first_at_odds(n, drawn_tree(chance, n)))
        for n in (4, 5, 6):
            self.assertIsNone(self.check_told(n, drawn_not_at_odds(chance, n)))

    def test_by_hand(self):
        one = (1, 1)
        self.assertIsNone(first_at_odds(1, []))
        self.assertIsNone(first_at_odds(4, [([1, 2], one), ([1, 3], one)]))
        self.assertEqual(first_at_odds(4, [([1, 2], one), ([1, 3], one), ([2, 3], one)]), (0, 1, 2))
        self.assertEqual(first_at_odds(4, [(cut, one) for cut in sides(4)]), (1, 3, 5))
        # Crossing each other is not enough: these are three cuts of one ring of six points.
        self.assertIsNone(first_at_odds(6, [([1, 2, 3], one), ([2, 3, 4], one), ([3, 4, 5], one)]))
        # The three sides have one point in common, and each alone one of its own.
        self.assertEqual(first_at_odds(5, [([1, 2], one), ([1, 3], one), ([1, 4], one)]), (0, 1, 2))
        # The three have no point in common, but each two have, and 0 lies in none.
        self.assertEqual(first_at_odds(5, [([1, 2], one), ([1, 3], one), ([2, 3], one), ([4], one)]), (0, 1, 2))

    def test_all_cuts_of_ten_points(self):
        cuts = [(cut, (1, 1)) for cut in sides(10)]
        told = self.asked(first_at_odds, 10, cuts)
        # [1] crosses none; none of [1, 2, ..] crosses [1, 2], none of [1, 3, ..] crosses [1, 3].
        self.assertEqual([cuts[place][0] for place in told], [[1, 2], [1, 3], [1, 4]])

    def test_the_same_again(self):
        self.check_free_of_what_was_told(first_at_odds, 5, [(cut, (1, 1)) for cut in sides(5)])


if __name__ == "__main__":
    unittest.main()
