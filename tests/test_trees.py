"""Points [12], [13], and [2], [3], [4] as far as they reach trees."""

import itertools
import unittest
from fractions import Fraction

from helping import FIFTY, FORTY, AskCase, built, chance_of, cross, drawn_cuts, drawn_long, drawn_table, drawn_tree
from helping import line, many_tables, moved, nought, of_pairs, pair, sides, summed

from farcuts.cuts import first_crossing, table_of
from farcuts.errors import NoCut
from farcuts.tables import first_short, hung_together, part_of
from farcuts.trees import tree_told, tree_weight


def far(table, i, j):
    return Fraction(*table[i][j])


def due_bars(table):
    short = first_short(table)
    if short is not None:
        return short
    for i, j, k, l in itertools.combinations(range(len(table)), 4):
        ranked = sorted([
            far(table, i, j) + far(table, k, l), far(table, i, k) + far(table, j, l), far(table, i, l) + far(table, j, k)
        ])
        if ranked[2] > ranked[1]:
            return (i, j, k, l)
    return None


def due_weight(table, cut):
    others = [point for point in range(len(table)) if point not in cut]
    gains = []
    for a, b in itertools.product(cut, repeat=2):
        for c, e in itertools.product(others, repeat=2):
            gains.append(far(table, a, c) + far(table, b, e) - far(table, a, b) - far(table, c, e))
    return pair(max(min(gains) / 2, Fraction(0)))


class TreesTold(AskCase):
    def check_told(self, table):
        """What is told fits the table; just one of both can be."""
        told = self.asked(tree_told, table)
        self.assertIs(type(told), tuple)
        self.assertEqual(len(told), 2)
        bars = due_bars(table)
        if bars is not None:
            self.assertEqual(told, ("bars", bars))
            self.assertIs(type(told[1]), tuple)
            return told
        self.assertEqual(told[0], "tree")
        n = len(table)
        self.check_weighted(n, told[1])
        for one, other in itertools.combinations(told[1], 2):
            self.assertFalse(cross(n, one[0], other[0]))
        self.assertEqual(summed(n, told[1]), table)
        return told

    def test_tables_of_drawn_trees(self):
        chance = chance_of(20)
        for n in range(1, 11):
            for turn in range(6 if n < 9 else 2):
                cuts = drawn_tree(chance, n)
                self.assertEqual(self.check_told(summed(n, cuts)), ("tree", cuts))

    def test_tables_of_drawn_cuts(self):
        chance = chance_of(21)
        for n in range(2, 11):
            for many in (1, 2, 3, 5):
                cuts = drawn_cuts(chance, n, many)
                told = self.check_told(summed(n, cuts))
                if first_crossing(n, cuts) is None:
                    self.assertEqual(told, ("tree", cuts))
                else:
                    self.assertEqual(told[0], "bars")
                    self.assertEqual(len(told[1]), 4)

    def test_other_tables(self):
        chance = chance_of(22)
        found = {}
        for n in range(1, 11):
            for turn in range(8):
                for table in (drawn_table(chance, n, 3), drawn_long(chance, n)):
                    told = self.check_told(table)
                    found.setdefault((told[0], len(told[1]) if told[0] == "bars" else 0), []).append(n)
        self.assertEqual(sorted(found), [("bars", 3), ("bars", 4), ("tree", 0)])
        for table in many_tables():
            self.check_told(table)

    def test_trees_with_one_distance_otherwise(self):
        chance = chance_of(23)
        for n in (3, 4, 5, 6, 8):
            table = summed(n, drawn_tree(chance, n))
            for i, j in itertools.combinations(range(n), 2):
                for by in (Fraction(1, FIFTY), Fraction(1), Fraction(FORTY)):
                    self.check_told(moved(table, i, j, by))

    def test_all_small_tables_of_four_points(self):
        for numbers in itertools.product(range(3), repeat=6):
            self.check_told(of_pairs(4, numbers))

    def test_by_no_cut(self):
        for n in range(1, 11):
            self.assertEqual(self.check_told(nought(n)), ("tree", []))

    def test_one_and_two_points(self):
        self.assertEqual(tree_told([[(0, 1)]]), ("tree", []))
        self.assertEqual(tree_told(built(2, lambda i, j: Fraction(3, 7))), ("tree", [([1], (3, 7))]))
        self.assertEqual(tree_told(built(2, lambda i, j: FIFTY)), ("tree", [([1], (FIFTY, 1))]))

    def test_by_hand(self):
        self.assertEqual(tree_told(line(4)), ("tree", [([1, 2, 3], (1, 1)), ([2, 3], (1, 1)), ([3], (1, 1))]))
        star = built(4, lambda i, j: 2)
        self.assertEqual(
            tree_told(star), ("tree", [([1], (1, 1)), ([1, 2, 3], (1, 1)), ([2], (1, 1)), ([3], (1, 1))])
        )
        # Points nought apart are never parted.
        self.assertEqual(tree_told(of_pairs(3, [0, 5, 5])), ("tree", [([2], (5, 1))]))
        # A ring of four roads.
        self.assertEqual(tree_told(of_pairs(4, [1, 2, 1, 1, 2, 1])), ("bars", (0, 1, 2, 3)))

    def test_first_bars_by_hand(self):
        # Three points go ahead of four, though the four come first in order.
        table = of_pairs(6, [1, 2, 1, 2, 2, 1, 2, 2, 2, 1, 2, 2, 2, 2, 5])
        self.assertEqual(tree_told(table), ("bars", (4, 0, 5)))
        # Only the last four points of five are barred: the first one lies where the second one is.
        square = [0, 1, 2, 1, 1, 2, 1, 1, 2, 1]
        self.assertEqual(tree_told(of_pairs(5, square)), ("bars", (0, 2, 3, 4)))
        twice_last = hung_together(of_pairs(4, [1, 2, 1, 1, 2, 1]), 3, line(2), 0)
        self.assertEqual(tree_told(twice_last), ("bars", (0, 1, 2, 3)))
        self.assertEqual(tree_told(part_of(twice_last, [4, 3, 0, 1, 2])), ("bars", (0, 2, 3, 4)))

    def test_hung_trees_are_trees(self):
        chance = chance_of(24)
        for turn in range(6):
            one = table_of(4, drawn_tree(chance, 4))
            other = table_of(5, drawn_tree(chance, 5))
            told = self.check_told(hung_together(one, turn % 4, other, turn % 5))
            self.assertEqual(told[0], "tree")

    def test_told_lists_are_the_askers_own(self):
        for table in (nought(1), nought(3), line(5), summed(7, drawn_tree(chance_of(25), 7)), drawn_long(chance_of(1), 5)):
            self.check_free_of_what_was_told(tree_told, table)


class TreeWeights(AskCase):
    def check_told(self, table, cut):
        told = self.asked(tree_weight, table, cut)
        self.check_fraction(told)
        self.assertEqual(told, due_weight(table, cut))
        return told

    def test_of_drawn_trees(self):
        chance = chance_of(26)
        for n in range(2, 8):
            cuts = drawn_tree(chance, n)
            weights = {tuple(cut): weight for cut, weight in cuts}
            for cut in sides(n):
                self.assertEqual(self.check_told(summed(n, cuts), cut), weights.get(tuple(cut), (0, 1)))

    def test_of_any_table(self):
        chance = chance_of(27)
        for n in range(2, 8):
            for table in (drawn_table(chance, n), drawn_long(chance, n), summed(n, drawn_cuts(chance, n, 4))):
                for cut in sides(n)[:40]:
                    self.check_told(table, cut)
        for table in many_tables():
            for cut in sides(len(table))[:3]:
                self.check_told(table, cut)

    def test_ten_points(self):
        table = summed(10, drawn_tree(chance_of(28), 10))
        for cut in ([1], [1, 2, 3, 4, 5], [3, 7, 9], list(range(1, 10))):
            self.check_told(table, cut)

    def test_by_hand(self):
        self.assertEqual(tree_weight(line(3), [1]), (0, 1))
        self.assertEqual(tree_weight(line(3), [2]), (1, 1))
        self.assertEqual(tree_weight(built(3, lambda i, j: 1), [1]), (1, 2))
        self.assertEqual(tree_weight(built(2, lambda i, j: Fraction(FORTY, 7)), [1]), (FORTY, 7))
        # A table that is not long: the least is below 0, told is nought.
        self.assertEqual(tree_weight(of_pairs(3, [1, 9, 1]), [1]), (0, 1))
        self.assertEqual(tree_weight(of_pairs(3, [1, 9, 1]), [2]), (1, 1))
        self.assertEqual(tree_weight(of_pairs(3, [1, 9, 1]), [1, 2]), (1, 1))
        # Of a ring of four roads both long cuts have 2 parted twice each way.
        self.assertEqual(tree_weight(of_pairs(4, [1, 2, 1, 1, 2, 1]), [1, 2]), (0, 1))

    def test_other_lists_are_refused(self):
        for n in range(1, 11):
            for cut in (
                [], [0], [0, 1], [n], [-1], [1, n], [-1, 1], [1, 1], [2, 1], [1, 3, 2], [1, 2, 2], [n + 3],
                list(range(n)), list(range(1, n + 1)), [FIFTY], [-FIFTY], [1, FIFTY],
            ):
                self.check_refused(NoCut, tree_weight, line(n), cut)
        self.check_refused(NoCut, tree_weight, of_pairs(3, [1, 9, 1]), [0])


if __name__ == "__main__":
    unittest.main()
