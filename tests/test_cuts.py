"""Points [9], [10], [11], and [2], [3] as far as they reach cuts."""

import copy
import itertools
import unittest

from helping import FIFTY, FORTY, AskCase, chance_of, cross, drawn_cuts, drawn_tree, nought, sides, summed

from farcuts.cuts import all_cuts, cut_of, first_crossing, is_weighted, table_of
from farcuts.errors import NoCut
from farcuts.tables import is_table

FAR_NUMBERS = (10 ** 49, -(10 ** 49), FIFTY)


class OneCut(AskCase):
    def test_every_list_of_unlike_points(self):
        for n in range(2, 6):
            for many in range(1, n):
                for points in itertools.permutations(range(n), many):
                    told = self.asked(cut_of, n, list(points))
                    due = points if 0 not in points else set(range(n)) - set(points)
                    self.assertEqual(told, sorted(due))

    def test_points_twice(self):
        self.assertEqual(cut_of(4, [2, 2]), [2])
        self.assertEqual(cut_of(4, [3, 1, 3, 1, 1]), [1, 3])
        self.assertEqual(cut_of(4, [0, 0]), [1, 2, 3])
        self.assertEqual(cut_of(4, [2, 0, 2, 0]), [1, 3])
        self.assertEqual(cut_of(10, [9] * 1000), [9])
        self.assertEqual(cut_of(10, [0, 9] * 500), [1, 2, 3, 4, 5, 6, 7, 8])

    def test_by_hand(self):
        self.assertEqual(cut_of(2, [0]), [1])
        self.assertEqual(cut_of(2, [1]), [1])
        self.assertEqual(cut_of(3, [2, 1]), [1, 2])
        self.assertEqual(cut_of(5, [4, 0]), [1, 2, 3])
        self.assertEqual(cut_of(10, [9, 8, 7]), [7, 8, 9])

    def test_both_sides_are_one_cut(self):
        for n in (2, 3, 6, 10):
            for cut in sides(n):
                others = [point for point in range(n) if point not in cut]
                self.assertEqual(cut_of(n, cut), cut)
                self.assertEqual(cut_of(n, others), cut)
                self.assertEqual(cut_of(n, others[::-1]), cut)

    def test_a_side_without_a_point_is_refused(self):
        for n in range(1, 11):
            self.check_refused(NoCut, cut_of, n, [])
            self.check_refused(NoCut, cut_of, n, list(range(n)))
            self.check_refused(NoCut, cut_of, n, list(range(n))[::-1] * 2)

    def test_what_is_no_point_is_refused(self):
        for n in range(1, 11):
            for number in (-1, -n, n, n + 1) + FAR_NUMBERS:
                self.check_refused(NoCut, cut_of, n, [number])
                self.check_refused(NoCut, cut_of, n, [0, number])
                self.check_refused(NoCut, cut_of, n, [number, n - 1])
                self.check_refused(NoCut, cut_of, n, list(range(n)) + [number])

    def test_truths_are_no_points(self):
        self.check_refused(NoCut, cut_of, 3, [True])
        self.check_refused(NoCut, cut_of, 3, [False, 1])

    def test_told_lists_are_the_askers_own(self):
        for points in ([1, 3], [3, 1], [0], [0, 4], [1, 2, 3, 4]):
            self.check_free_of_what_was_told(cut_of, 5, points)


class AllCuts(AskCase):
    def test_each_many(self):
        for n in range(1, 11):
            told = self.asked(all_cuts, n)
            self.assertEqual(told, sides(n))
            self.assertEqual(len(told), 2 ** (n - 1) - 1)

    def test_by_hand(self):
        self.assertEqual(all_cuts(1), [])
        self.assertEqual(all_cuts(2), [[1]])
        self.assertEqual(all_cuts(3), [[1], [1, 2], [2]])
        self.assertEqual(all_cuts(4), [[1], [1, 2], [1, 2, 3], [1, 3], [2], [2, 3], [3]])

    def test_told_lists_are_the_askers_own(self):
        for n in (1, 2, 4, 7):
            self.check_free_of_what_was_told(all_cuts, n)


class TellingWeighted(AskCase):
    def check_told(self, n, thing, due):
        kept = copy.deepcopy(thing)
        self.assertIs(is_weighted(n, thing), due, thing)
        self.assertEqual(thing, kept)

    def test_weighted_cuts(self):
        chance = chance_of(10)
        for n in range(1, 11):
            self.check_told(n, [], True)
            self.check_told(n, [(cut, (1, 1)) for cut in sides(n)], True)
            self.check_told(n, [(cut, (FORTY, FIFTY + 1)) for cut in sides(n)[:20]], True)
            for many in (1, 2, 5, 20):
                self.check_told(n, drawn_cuts(chance, n, many), True)

    def test_no_list(self):
        for thing in (
            None, True, False, 0, 1, 1.5, "", "none", (), {}, set(), object(), len, (([1], (1, 1)),),
            {0: ([1], (1, 1))}, "cuts", ([1], (1, 1)),
        ):
            self.assertIs(is_weighted(4, thing), False, thing)

    def test_things_that_are_no_weighted_cut(self):
        for thing in (
            None, 0, "", "ab", [], [[1], (1, 1)], (), ([1],), ([1], (1, 1), 0), ((1, 1), [1]), {}, True,
            ([1], [1, 1]), ((1,), (1, 1)), (1, (1, 1)), ("1", (1, 1)), (None, (1, 1)), ({1: True}, (1, 1)),
            ([[1]], (1, 1)), (["1"], (1, 1)), ([None], (1, 1)), ([1.0], (1, 1)), ([True], (1, 1)),
            ([1, True], (1, 1)), ([True, 2], (1, 1)), ([1, 2.0], (1, 1)), ([1, None], (1, 1)), ([1, [2]], (1, 1)),
        ):
            self.check_told(4, [thing], False)
            self.check_told(4, [([1], (1, 1)), thing], False)
            self.check_told(4, [thing, ([3], (1, 1))], False)

    def test_lists_that_are_no_cut(self):
        for n in range(1, 11):
            for cut in (
                [], [0], [0, 1], [n], [-1], [1, n], [-1, 1], [1, 1], [2, 1], [1, 3, 2], [1, 2, 2], [n + 3],
                list(range(n)), list(range(1, n + 1)), [FIFTY], [-FIFTY], [1, FIFTY],
            ):
                self.check_told(n, [(cut, (1, 1))], False)

    def test_weights_that_are_none(self):
        for weight in (
            (0, 1), (-1, 1), (-1, 2), (-FIFTY, 1), (2, 2), (2, 4), (0, 2), (1, 0), (1, -1), (-1, -1), (0, 0),
            (True, 1), (1, True), (1, 2, 3), (1,), (), [1, 1], 1, 1.5, "1", None, True, (1.0, 1), ("1", 1),
            (False, 1), (FIFTY, FIFTY), (None, 1), ((1, 1), (1, 1)),
        ):
            self.check_told(3, [([1], weight)], False)
            self.check_told(3, [([1], (1, 1)), ([2], weight)], False)

    def test_one_cut_twice(self):
        self.check_told(3, [([1], (1, 1)), ([1], (1, 1))], False)
        self.check_told(3, [([1], (1, 1)), ([1], (2, 1))], False)
        self.check_told(3, [([1], (1, 1)), ([1, 2], (1, 1)), ([1], (1, 1))], False)

    def test_not_sorted(self):
        cuts = [(cut, (1, 1)) for cut in sides(4)]
        for a, b in itertools.combinations(range(len(cuts)), 2):
            other = list(cuts)
            other[a], other[b] = cuts[b], cuts[a]
            self.check_told(4, other, False)
        self.check_told(4, cuts[::-1], False)
        # Sorted by how many points, or by weight, is not sorted.
        self.check_told(4, [([1], (1, 1)), ([2], (1, 1)), ([1, 2], (1, 1))], False)
        self.check_told(4, [([2], (1, 1)), ([1], (2, 1))], False)

    def test_points_beyond_n_alone_make_it_none(self):
        cuts = [([1], (1, 2)), ([1, 4], (3, 1)), ([2], (7, 9))]
        for n, due in ((1, False), (2, False), (4, False), (5, True), (6, True), (10, True)):
            self.check_told(n, cuts, due)

    def test_a_list_within_itself(self):
        knot = []
        knot.append(knot)
        self.assertIs(is_weighted(3, knot), False)
        knot[0] = (knot, (1, 1))
        self.assertIs(is_weighted(3, knot), False)


class TablesOfCuts(AskCase):
    def test_drawn_ones(self):
        chance = chance_of(11)
        for n in range(1, 11):
            for many in (0, 1, 2, 3, 7, 15):
                cuts = drawn_cuts(chance, n, many)
                told = self.asked(table_of, n, cuts)
                self.assertEqual(told, summed(n, cuts))
                self.assertIs(is_table(told), True)

    def test_all_cuts(self):
        for n in range(1, 11):
            cuts = [(cut, (1, 1)) for cut in sides(n)]
            far = (2 ** (n - 2), 1) if n > 1 else None
            self.assertEqual(table_of(n, cuts), [[(0, 1) if i == j else far for j in range(n)] for i in range(n)])

    def test_of_no_cut(self):
        for n in range(1, 11):
            self.assertEqual(self.asked(table_of, n, []), nought(n))

    def test_by_hand(self):
        self.assertEqual(table_of(2, [([1], (FORTY, 7))]), [[(0, 1), (FORTY, 7)], [(FORTY, 7), (0, 1)]])
        self.assertEqual(
            table_of(3, [([1], (1, 2)), ([1, 2], (1, 3)), ([2], (1, 6))]),
            [[(0, 1), (5, 6), (1, 2)], [(5, 6), (0, 1), (2, 3)], [(1, 2), (2, 3), (0, 1)]],
        )

    def test_told_lists_are_the_askers_own(self):
        for n, cuts in ((1, []), (3, []), (4, [([1, 2], (1, 2)), ([3], (5, 1))])):
            self.check_free_of_what_was_told(table_of, n, cuts)


class Crossing(AskCase):
    def due(self, n, cuts):
        for a, b in itertools.combinations(range(len(cuts)), 2):
            if cross(n, cuts[a][0], cuts[b][0]):
                return (a, b)
        return None

    def test_drawn_ones(self):
        chance = chance_of(12)
        for n in range(1, 11):
            for many in (0, 1, 2, 3, 5, 9, 511):
                cuts = drawn_cuts(chance, n, many)
                self.assertEqual(self.asked(first_crossing, n, cuts), self.due(n, cuts))

    def test_cuts_of_trees(self):
        chance = chance_of(13)
        for n in range(1, 9):
            for turn in range(4):
                cuts = drawn_tree(chance, n)
                self.assertIsNone(first_crossing(n, cuts))
                for cut in sides(n):
                    if cut not in [one for one, weight in cuts]:
                        more = sorted(cuts + [(cut, (1, 1))])
                        self.assertEqual(first_crossing(n, more), self.due(n, more))

    def test_each_two_of_four_and_five_points(self):
        for n in (2, 3, 4, 5):
            for cut, other in itertools.combinations(sides(n), 2):
                told = first_crossing(n, [(cut, (1, 1)), (other, (1, 2))])
                self.assertEqual(told, (0, 1) if cross(n, cut, other) else None)

    def test_by_hand(self):
        one = (1, 1)
        self.assertIsNone(first_crossing(1, []))
        self.assertIsNone(first_crossing(3, [([1], one), ([1, 2], one), ([2], one)]))
        self.assertEqual(first_crossing(4, [([1, 2], one), ([1, 3], one)]), (0, 1))
        # The three cuts of two and two cross each other; the first in order is told.
        self.assertEqual(
            first_crossing(4, [([1], one), ([1, 2], one), ([1, 2, 3], one), ([1, 3], one), ([2, 3], one)]), (1, 3)
        )
        # Both together hold all points but 0: the side of 0 has a point of each side all the same.
        self.assertEqual(first_crossing(4, [([1, 2], one), ([2, 3], one)]), (0, 1))
        # With no point outside both they do not cross: here 0 is the one that is needed.
        self.assertIsNone(first_crossing(5, [([1, 2], one), ([3, 4], one)]))
        self.assertEqual(first_crossing(6, [([1, 2], one), ([3, 4], one), ([4, 5], one)]), (1, 2))

    def test_kinds(self):
        told = self.asked(first_crossing, 10, [(cut, (1, 1)) for cut in sides(10)])
        self.assertIs(type(told), tuple)
        self.assertEqual([type(place) for place in told], [int, int])
        self.check_free_of_what_was_told(first_crossing, 5, [(cut, (1, 1)) for cut in sides(5)])


if __name__ == "__main__":
    unittest.main()
