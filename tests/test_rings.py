"""Points [14], [15], [16], and [2], [3], [4] as far as they reach rings."""

import itertools
import unittest
from fractions import Fraction

from helping import FIFTY, FORTY, AskCase, built, chance_of, drawn_cuts, drawn_long, drawn_ring, drawn_table
from helping import drawn_tree, drawn_weight, line, moved, nought, of_pairs, pair, parts, ring_cuts, summed

from farcuts.errors import NoOrder
from farcuts.rings import first_ring, ring_told, ring_weight
from farcuts.tables import part_of

FAR_NUMBERS = (10 ** 49, -(10 ** 49), FIFTY)


def rings(n):
    """All rings of n points in order as lists."""
    found = []
    for behind in itertools.permutations(range(1, n)):
        if n > 2 and behind[0] < behind[-1]:
            found.append([0] + list(behind))
    return found


def due_weight(table, ring, a, b):
    x, p = ring[a], ring[a + 1]
    y, q = ring[b], (ring + ring)[b + 1]
    ends = Fraction(*table[x][y]) + Fraction(*table[p][q])
    return (ends - Fraction(*table[x][q]) - Fraction(*table[p][y])) / 2


def due_told(table, ring):
    cuts = []
    for gaps, cut in sorted(ring_cuts(ring).items()):
        weight = due_weight(table, ring, *gaps)
        if weight < 0:
            return ("bars", gaps)
        if weight > 0:
            cuts.append((cut, pair(weight)))
    return ("ring", sorted(cuts))


def bad_rings(n):
    """Lists of whole numbers that are no ring of n points."""
    found = [[], [0], [0] * n, list(range(n + 1)), list(range(1, n + 1)), list(range(n))[::-1]]
    found += [[-1] + list(range(1, n)), list(range(n - 1)) + [n], [0] + list(range(n - 1, 0, -1))]
    found += [list(range(n)) + [0], [1, 0] + list(range(2, n)), list(range(n - 1)), [0, 1], [0, 1, 2, 3, 3]]
    if n > 3:
        found += [[0, 2] + list(range(2, n)), [0, 1] + list(range(1, n - 1)), [0, 3, 2, 1] + list(range(4, n - 1)) + [0]]
    for number in FAR_NUMBERS:
        found += [[0, 1, number], list(range(n - 1)) + [number], [number] * 3]
    return [ring for ring in found if ring not in rings(min(n, 5))]


class RingWeights(AskCase):
    def check_told(self, table, ring, a, b):
        told = self.asked(ring_weight, table, ring, a, b)
        self.check_fraction(told)
        self.assertEqual(told, pair(due_weight(table, ring, a, b)))
        return told

    def test_each_two_gaps_of_each_ring(self):
        chance = chance_of(30)
        for n in (3, 4, 5):
            for table in (drawn_table(chance, n), drawn_long(chance, n), summed(n, drawn_cuts(chance, n, 6))):
                for ring in rings(n):
                    for a, b in itertools.combinations(range(n), 2):
                        self.check_told(table, ring, a, b)

    def test_greater_rings(self):
        chance = chance_of(31)
        for n in range(6, 11):
            for table in (drawn_table(chance, n, FORTY), summed(n, drawn_cuts(chance, n, 9))):
                for a, b in itertools.combinations(range(n), 2):
                    self.check_told(table, drawn_ring(chance, n), a, b)

    def test_weights_add_up_to_the_table(self):
        chance = chance_of(32)
        for n in range(3, 11):
            for table in (drawn_table(chance, n), drawn_long(chance, n), of_pairs(n, [FIFTY] * 45)):
                ring = drawn_ring(chance, n)
                weighted = [(cut, ring_weight(table, ring, *gaps)) for gaps, cut in ring_cuts(ring).items()]
                for i, j in itertools.combinations(range(n), 2):
                    total = sum(Fraction(*weight) for cut, weight in weighted if parts(cut, i, j))
                    self.assertEqual(pair(total), table[i][j])

    def test_weights_of_drawn_sums_come_back(self):
        chance = chance_of(33)
        for n in range(3, 11):
            ring = drawn_ring(chance, n)
            weights = {gaps: drawn_weight(chance) for gaps in ring_cuts(ring)}
            table = summed(n, [(cut, weights[gaps]) for gaps, cut in ring_cuts(ring).items()])
            for gaps in ring_cuts(ring):
                self.assertEqual(ring_weight(table, ring, *gaps), weights[gaps])

    def test_by_hand(self):
        third = of_pairs(3, [3, 4, 5])
        self.assertEqual(ring_weight(third, [0, 1, 2], 0, 1), (2, 1))
        self.assertEqual(ring_weight(third, [0, 1, 2], 0, 2), (1, 1))
        self.assertEqual(ring_weight(third, [0, 1, 2], 1, 2), (3, 1))
        self.assertEqual(ring_weight(of_pairs(3, [1, 9, 1]), [0, 1, 2], 0, 1), (-7, 2))
        square = of_pairs(4, [1, 2, 1, 1, 2, 1])
        self.assertEqual(ring_weight(square, [0, 1, 2, 3], 0, 2), (1, 1))
        self.assertEqual(ring_weight(square, [0, 1, 2, 3], 1, 3), (1, 1))
        self.assertEqual(ring_weight(square, [0, 1, 2, 3], 0, 1), (0, 1))
        self.assertEqual(ring_weight(square, [0, 1, 3, 2], 0, 2), (-1, 1))

    def test_other_rings_are_refused(self):
        for n in range(1, 11):
            for ring in bad_rings(n):
                self.check_refused(NoOrder, ring_weight, line(n), ring, 0, 1)
                self.check_refused(NoOrder, ring_weight, line(n), ring, 1, 0)
            if n < 3:
                self.check_refused(NoOrder, ring_weight, line(n), list(range(n)), 0, 1)

    def test_truths_are_no_points(self):
        self.check_refused(NoOrder, ring_told, line(3), [0, True, 2])
        self.check_refused(NoOrder, ring_told, line(3), [False, 1, 2])

    def test_other_gaps_are_refused(self):
        for n in range(3, 11):
            for a, b in ((0, 0), (1, 0), (n - 1, n - 1), (n - 1, 0), (0, n), (-1, 0), (-1, 1), (n, n + 1), (-2, -1)):
                self.check_refused(NoOrder, ring_weight, line(n), list(range(n)), a, b)
            for number in FAR_NUMBERS:
                self.check_refused(NoOrder, ring_weight, line(n), list(range(n)), 0, number if number > 0 else -number)
                self.check_refused(NoOrder, ring_weight, line(n), list(range(n)), number, n - 1)


class RingsTold(AskCase):
    def check_told(self, table, ring):
        told = self.asked(ring_told, table, ring)
        self.assertEqual(told, due_told(table, ring))
        self.assertIs(type(told), tuple)
        if told[0] == "ring":
            self.check_weighted(len(table), told[1])
            self.assertEqual(summed(len(table), told[1]), table)
        else:
            self.assertIs(type(told[1]), tuple)
        return told

    def test_each_ring_of_small_tables(self):
        chance = chance_of(34)
        found = []
        for n in (3, 4, 5, 6):
            for turn in range(4):
                for table in (drawn_table(chance, n), drawn_long(chance, n), summed(n, drawn_tree(chance, n))):
                    for ring in rings(n):
                        found.append(self.check_told(table, ring)[0])
        self.assertGreater(found.count("ring"), 30)
        self.assertGreater(found.count("bars"), 30)

    def test_sums_of_a_rings_cuts(self):
        chance = chance_of(35)
        for n in range(3, 11):
            for turn in range(4):
                ring = drawn_ring(chance, n)
                cuts = [(cut, drawn_weight(chance)) for cut in ring_cuts(ring).values() if chance.randrange(3)]
                self.assertEqual(self.check_told(summed(n, cuts), ring), ("ring", sorted(cuts)))

    def test_one_weight_below_nought_by_very_little(self):
        chance = chance_of(36)
        for n in (3, 4, 6, 8):
            ring = drawn_ring(chance, n)
            weights = {gaps: (chance.randrange(1, 9), 1) for gaps in ring_cuts(ring)}
            for gaps in ring_cuts(ring):
                table = summed(n, [
                    (cut, (-1, FIFTY) if other == gaps else weights[other]) for other, cut in ring_cuts(ring).items()
                ])
                self.assertEqual(self.check_told(table, ring), ("bars", gaps))

    def test_points_nought_apart(self):
        for n in range(3, 11):
            self.assertEqual(self.check_told(nought(n), list(range(n))), ("ring", []))

    def test_by_hand(self):
        third = of_pairs(3, [3, 4, 5])
        self.assertEqual(ring_told(third, [0, 1, 2]), ("ring", [([1], (2, 1)), ([1, 2], (1, 1)), ([2], (3, 1))]))
        self.assertEqual(ring_told(of_pairs(3, [1, 9, 1]), [0, 1, 2]), ("bars", (0, 1)))
        self.assertEqual(ring_told(of_pairs(3, [1, 1, 9]), [0, 1, 2]), ("bars", (0, 2)))
        square = of_pairs(4, [1, 2, 1, 1, 2, 1])
        self.assertEqual(ring_told(square, [0, 1, 2, 3]), ("ring", [([1, 2], (1, 1)), ([2, 3], (1, 1))]))
        self.assertEqual(ring_told(square, [0, 1, 3, 2]), ("bars", (0, 2)))
        self.assertEqual(ring_told(square, [0, 2, 1, 3]), ("bars", (1, 3)))

    def test_other_rings_are_refused(self):
        for n in range(1, 11):
            for ring in bad_rings(n):
                self.check_refused(NoOrder, ring_told, line(n), ring)
                self.check_refused(NoOrder, ring_told, built(n, lambda i, j: 1 if i else 9 * j), ring)
            if n < 3:
                self.check_refused(NoOrder, ring_told, line(n), list(range(n)))

    def test_told_lists_are_the_askers_own(self):
        self.check_free_of_what_was_told(ring_told, of_pairs(4, [1, 2, 1, 1, 2, 1]), [0, 1, 2, 3])
        self.check_free_of_what_was_told(ring_told, of_pairs(4, [1, 2, 1, 1, 2, 1]), [0, 1, 3, 2])
        self.check_free_of_what_was_told(ring_told, nought(3), [0, 1, 2])


class FirstRings(AskCase):
    def due(self, table):
        for ring in rings(len(table)):
            if due_told(table, ring)[0] == "ring":
                return ring
        return None

    def test_small_tables(self):
        chance = chance_of(37)
        found = []
        for n in (3, 4, 5, 6):
            for turn in range(8):
                sums = summed(n, drawn_cuts(chance, n, n))
                for table in (drawn_table(chance, n), drawn_long(chance, n), sums):
                    told = self.asked(first_ring, table)
                    self.assertEqual(told, self.due(table))
                    found.append(told)
        self.assertGreater(found.count(None), 20)
        self.assertGreater(len(found) - found.count(None), 20)

    def test_sums_of_a_drawn_rings_cuts(self):
        chance = chance_of(38)
        for n in range(3, 9):
            for turn in range(3):
                ring = drawn_ring(chance, n)
                whole = summed(n, [(cut, drawn_weight(chance)) for cut in ring_cuts(ring).values()])
                # With each cut of the ring there, no other ring has them all.
                self.assertEqual(self.asked(first_ring, whole), ring)
                some = summed(n, [
                    (cut, drawn_weight(chance)) for cut in ring_cuts(ring).values() if chance.randrange(2)
                ])
                told = self.asked(first_ring, some)
                self.assertEqual(due_told(some, told)[0], "ring")
                self.assertLessEqual(told, ring)
                self.assertEqual(told, self.due(some))

    def test_trees_have_one(self):
        chance = chance_of(39)
        for n in range(3, 9):
            for turn in range(3):
                table = summed(n, drawn_tree(chance, n))
                self.assertEqual(self.asked(first_ring, table), self.due(table))
                self.assertIsNotNone(first_ring(table))

    def test_a_cut_that_is_not_the_rings_however_light(self):
        chance = chance_of(40)
        for n in (4, 5, 6, 7):
            ring = drawn_ring(chance, n)
            light = [(sorted([ring[1], ring[3]]), (1, FIFTY))]
            gaps = [one for one in ring_cuts(ring) if due_weight(summed(n, light), ring, *one) >= 0]
            cuts = [(ring_cuts(ring)[one], (3, 1)) for one in gaps]
            self.assertEqual(due_told(summed(n, cuts), ring)[0], "ring")
            table = summed(n, cuts + light)
            self.assertEqual(due_told(table, ring)[0], "bars")
            self.assertEqual(self.asked(first_ring, table), self.due(table))

    def test_eight_points_with_none(self):
        chance = chance_of(41)
        for turn in range(3):
            table = drawn_long(chance, 8)
            self.assertEqual(self.asked(first_ring, table), self.due(table))

    def test_by_hand(self):
        self.assertEqual(first_ring(of_pairs(3, [3, 4, 5])), [0, 1, 2])
        self.assertIsNone(first_ring(of_pairs(3, [1, 9, 1])))
        self.assertEqual(first_ring(of_pairs(4, [1, 2, 1, 1, 2, 1])), [0, 1, 2, 3])
        self.assertEqual(first_ring(of_pairs(4, [1, 1, 2, 2, 1, 1])), [0, 1, 3, 2])
        self.assertEqual(first_ring(of_pairs(4, [2, 1, 1, 1, 1, 2])), [0, 2, 1, 3])
        for n in range(3, 9):
            self.assertEqual(first_ring(nought(n)), list(range(n)))
            self.assertEqual(first_ring(line(n)), list(range(n)))
        # Two points, each one road from each of three others: no sum of cuts, so by no ring.
        self.assertIsNone(first_ring(of_pairs(5, [2, 1, 1, 1, 1, 1, 1, 2, 2, 2])))

    def test_fewer_points_have_none(self):
        for n in (1, 2):
            self.assertIsNone(self.asked(first_ring, line(n)))

    def test_points_put_otherwise(self):
        chance = chance_of(42)
        for n in (5, 7, 8):
            table = part_of(line(n), [0] + chance.sample(range(1, n), n - 1))
            self.assertEqual(self.asked(first_ring, table), self.due(table))

    def test_fails_in_the_closing_gap_alone(self):
        for n in (3, 4, 5, 6):
            table = moved(line(n), 0, n - 1, Fraction(1, FIFTY))
            self.assertEqual(self.asked(first_ring, table), self.due(table))

    def test_told_lists_are_the_askers_own(self):
        for table in (nought(3), line(6), of_pairs(4, [1, 1, 2, 2, 1, 1]), of_pairs(3, [1, 9, 1])):
            self.check_free_of_what_was_told(first_ring, table)


if __name__ == "__main__":
    unittest.main()
