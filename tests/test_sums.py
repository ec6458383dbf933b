"""Points [17], [18], and [2], [3], [4] as far as they reach sums."""

import itertools
import unittest
from fractions import Fraction

from helping import FIFTY, FORTY, AskCase, bar_products, chance_of, drawn_cuts, drawn_long, drawn_table, drawn_tree
from helping import huge, line, mixed, moved, nought, of_pairs, pair, parts, sides, summed, wild

from farcuts.errors import NoCut, TooMany
from farcuts.papers import shows
from farcuts.sums import possible_cuts, sum_told, sum_with
from farcuts.tables import added, first_short, hung_together, part_of

# Whole numbers that add up to 1: the products of each two, times the distances, are not above 0 for a sum of cuts.
BARRING = (
    (1, 1, -1), (1, 1, 1, -1, -1), (2, 1, 1, -1, -1, -1), (-2, -1, 1, 1, 1, 1), (1, 1, 1, 1, -1, -1, -1),
    (3, 1, 1, -1, -1, -1, -1), (2, 2, 1, -1, -1, -1, -1), (-3, -1, 1, 1, 1, 1, 1),
)


def tight_cuts(n, numbers):
    numbers = list(numbers) + [0] * (n - len(numbers))
    return [cut for cut in sides(n) if sum(numbers[point] for point in cut) in (0, 1)]


def long_bottoms(chance, n):
    """Distances between 1 and 2, each with a bottom of fifty figures of its own."""
    return of_pairs(n, [1 + Fraction(chance.randrange(10 ** 48), FIFTY - chance.randrange(10 ** 48)) for one in range(45)])


class SumCase(AskCase):
    def check_told(self, table):
        n = len(table)
        told = self.asked(sum_told, table)
        self.assertIs(type(told), tuple)
        self.assertEqual(len(told), 2)
        self.assertIn(told[0], ("cuts", "bars"))
        self.assertIs(type(told[1]), list)
        self.assertIs(shows(table, told), True)
        if told[0] == "cuts":
            self.check_weighted(n, told[1])
            self.assertEqual(summed(n, told[1]), table)
        else:
            self.check_bars(table, told[1])
        return told[0]

    def check_bars(self, table, numbers):
        n = len(table)
        pairs = list(itertools.combinations(range(n), 2))
        self.assertEqual(len(numbers), len(pairs))
        for number in numbers:
            self.check_fraction(number)
        for cut in sides(n):
            parted = [Fraction(*number) for number, two in zip(numbers, pairs) if parts(cut, *two)]
            self.assertGreaterEqual(sum(parted), 0)
        self.assertLess(sum(Fraction(*q) * Fraction(*table[i][j]) for q, (i, j) in zip(numbers, pairs)), 0)


class SumsTold(SumCase):
    def test_sums_of_drawn_cuts(self):
        chance = chance_of(60)
        for n in range(1, 8):
            for many in (0, 1, 2, 4, 8, 20, 63):
                self.assertEqual(self.check_told(summed(n, drawn_cuts(chance, n, many))), "cuts")
            self.assertEqual(self.check_told(summed(n, drawn_tree(chance, n))), "cuts")

    def test_other_tables(self):
        chance = chance_of(61)
        found = []
        for n in range(1, 8):
            for turn in range(6):
                for table in (drawn_table(chance, n), drawn_table(chance, n, 1), drawn_long(chance, n)):
                    told = self.check_told(table)
                    if first_short(table) is not None:
                        self.assertEqual(told, "bars")
                    found.append(told)
            for table in (line(n), mixed(n), wild(n), huge(n), nought(n), long_bottoms(chance, n)):
                self.check_told(table)
        self.assertGreater(found.count("cuts"), 20)
        self.assertGreater(found.count("bars"), 20)

    def test_all_small_tables_of_four_points(self):
        # Of up to four points a table is a sum just where it is long.
        for numbers in itertools.product(range(3), repeat=6):
            table = of_pairs(4, numbers)
            self.assertEqual(self.check_told(table), "bars" if first_short(table) else "cuts")

    def test_long_tables_of_at_most_four_points_are_sums(self):
        chance = chance_of(62)
        for turn in range(20):
            for n in (2, 3, 4):
                self.assertEqual(self.check_told(drawn_long(chance, n)), "cuts")

    def test_long_tables_that_are_none(self):
        for numbers in BARRING:
            for n in range(max(5, len(numbers)), 8):
                products = bar_products(n, numbers)
                table = of_pairs(n, [2 if product > 0 else 1 for product in products])
                value = sum(product * (2 if product > 0 else 1) for product in products)
                if value > 0 and first_short(table) is None:
                    self.assertEqual(self.check_told(table), "bars")
        self.assertEqual(self.check_told(of_pairs(5, [2, 2, 1, 1, 2, 1, 1, 1, 1, 2])), "bars")

    def test_none_by_very_little(self):
        for numbers in BARRING:
            for n in range(len(numbers), 8):
                tight = [(cut, (1, 1)) for cut in tight_cuts(n, numbers)]
                table = summed(n, tight)
                self.assertEqual(self.check_told(table), "cuts")
                for (i, j), product in zip(itertools.combinations(range(n), 2), bar_products(n, numbers)):
                    if product:
                        little = Fraction(1, FIFTY) * (1 if product > 0 else -1)
                        self.assertEqual(self.check_told(moved(table, i, j, little)), "bars")

    def test_sums_by_very_little(self):
        # All cuts with a weight each: a small change of any distance leaves it a sum.
        for n in range(2, 8):
            table = summed(n, [(cut, (1, 1)) for cut in sides(n)])
            for i, j in itertools.combinations(range(n), 2):
                for little in (Fraction(1, FIFTY), -Fraction(1, FIFTY)):
                    self.assertEqual(self.check_told(moved(table, i, j, little)), "cuts")

    def test_by_hand(self):
        self.assertEqual(sum_told([[(0, 1)]]), ("cuts", []))
        self.assertEqual(sum_told(of_pairs(2, [Fraction(3, 7)])), ("cuts", [([1], (3, 7))]))
        self.assertEqual(sum_told(of_pairs(2, [FIFTY])), ("cuts", [([1], (FIFTY, 1))]))
        self.assertEqual(
            sum_told(of_pairs(3, [3, 4, 5])), ("cuts", [([1], (2, 1)), ([1, 2], (1, 1)), ([2], (3, 1))])
        )
        for n in range(1, 8):
            self.assertEqual(sum_told(nought(n)), ("cuts", []))

    def test_put_together_and_parts(self):
        chance = chance_of(63)
        for n in range(2, 7):
            table = summed(n, drawn_cuts(chance, n, 5))
            self.assertEqual(self.check_told(added(table, line(n))), "cuts")
            self.assertEqual(self.check_told(part_of(table, chance.sample(range(n), n - 1))), "cuts")
            hung = hung_together(table, n - 1, line(2), 0)
            self.assertEqual(self.check_told(hung), "cuts")

    def test_more_points_are_refused(self):
        for n in range(8, 13):
            for table in (line(n), nought(n), mixed(n), wild(n)):
                self.check_refused(TooMany, sum_told, table)

    def test_told_lists_are_the_askers_own(self):
        for table in (nought(1), nought(4), line(5), mixed(6), wild(5), of_pairs(5, [2, 2, 1, 1, 2, 1, 1, 1, 1, 2])):
            self.check_free_of_what_was_told(sum_told, table)

    def test_told_numbers_are_handed_in_again(self):
        chance = chance_of(64)
        table = long_bottoms(chance, 6)
        told = sum_told(table)
        self.assertEqual(told[0], "cuts")
        self.assertEqual(self.check_told(summed(6, told[1])), "cuts")


class PossibleCuts(SumCase):
    def check_possible(self, table):
        """Each cut told stands in a sum. Each other one cannot be taken off, however light it is: what is left is no
        sum, and numbers bar it. (Of tables of small whole numbers no weight there can be is so light.)"""
        n = len(table)
        told = self.asked(possible_cuts, table)
        self.assertIs(type(told), list)
        self.assertEqual(told, [cut for cut in sides(n) if cut in told])
        is_sum = sum_told(table)[0] == "cuts"
        if not is_sum:
            self.assertEqual(told, [])
        for cut in sides(n):
            found = self.asked(sum_with, table, cut)
            if cut in told:
                self.check_weighted(n, found)
                self.assertIn(cut, [one for one, weight in found])
                self.assertEqual(summed(n, found), table)
            else:
                self.assertIsNone(found)
                if is_sum:
                    self.check_not_possible(table, cut)
        return told

    def check_not_possible(self, table, cut):
        pairs = itertools.combinations(range(len(table)), 2)
        less = [Fraction(*table[i][j]) - (Fraction(1, FORTY) if parts(cut, i, j) else 0) for i, j in pairs]
        if all(number >= 0 for number in less):
            self.assertEqual(self.check_told(of_pairs(len(table), less)), "bars")

    def test_sums_of_drawn_cuts(self):
        chance = chance_of(65)
        found = []
        for n in range(1, 7):
            for many in (1, 2, 3, 4, 6, 8):
                cuts = drawn_cuts(chance, n, many, plain=True)
                told = self.check_possible(summed(n, cuts))
                for cut, weight in cuts:
                    self.assertIn(cut, told)
                if n > 4:
                    found.append(len(told) - len(cuts))
        self.assertIn(0, found)
        self.assertGreater(max(found), 0)

    def test_sums_of_long_weights(self):
        chance = chance_of(66)
        for n in range(2, 7):
            cuts = drawn_cuts(chance, n, 4)
            table = summed(n, cuts)
            told = self.asked(possible_cuts, table)
            for cut in sides(n):
                found = self.asked(sum_with, table, cut)
                self.assertEqual(found is not None, cut in told)
                if found is not None:
                    self.assertEqual(summed(n, found), table)
                    self.assertIn(cut, [one for one, weight in found])

    def test_trees_have_just_their_own(self):
        chance = chance_of(67)
        for n in range(2, 7):
            for turn in range(3):
                cuts = [(cut, weight) for cut, weight in drawn_tree(chance, n, plain=True) if len(cut) == 1]
                table = summed(n, cuts[:2])
                self.assertEqual(self.check_possible(table), [cut for cut, weight in cuts[:2]])

    def test_tight_cuts_are_all_there_are(self):
        for numbers in BARRING[:4]:
            for n in range(len(numbers), 7):
                tight = tight_cuts(n, numbers)
                self.assertEqual(self.check_possible(summed(n, [(cut, (1, 1)) for cut in tight])), tight)

    def test_all_cuts(self):
        for n in range(2, 7):
            self.assertEqual(self.check_possible(summed(n, [(cut, (1, 1)) for cut in sides(n)])), sides(n))
            self.assertEqual(self.check_possible(of_pairs(n, [2] * 15)), sides(n))

    def test_no_sum(self):
        chance = chance_of(68)
        for n in range(3, 7):
            table = moved(line(n), 0, n - 1, Fraction(1, FIFTY))
            self.assertEqual(self.check_possible(table), [])
            self.assertEqual(self.check_possible(moved(drawn_long(chance, n), 0, 1, Fraction(90))), [])
        self.assertEqual(self.check_possible(of_pairs(5, [2, 2, 1, 1, 2, 1, 1, 1, 1, 2])), [])

    def test_by_hand(self):
        self.assertEqual(possible_cuts([[(0, 1)]]), [])
        for n in range(1, 7):
            self.assertEqual(possible_cuts(nought(n)), [])
        self.assertEqual(possible_cuts(of_pairs(2, [FIFTY])), [[1]])
        self.assertEqual(possible_cuts(line(4)), [[1, 2, 3], [2, 3], [3]])
        self.assertEqual(possible_cuts(of_pairs(3, [0, 5, 5])), [[2]])
        self.assertEqual(possible_cuts(of_pairs(4, [1, 2, 1, 1, 2, 1])), [[1, 2], [2, 3]])
        # All 2 apart: by the four single points, or by the three cuts of two and two.
        self.assertEqual(possible_cuts(of_pairs(4, [2] * 6)), sides(4))
        self.assertEqual(sum_with(of_pairs(2, [FIFTY]), [1]), [([1], (FIFTY, 1))])
        self.assertIsNone(sum_with(line(4), [1]))
        self.assertEqual(sum_with(line(4), [2, 3]), [([1, 2, 3], (1, 1)), ([2, 3], (1, 1)), ([3], (1, 1))])

    def test_a_cut_as_light_as_can_be(self):
        for n in (3, 4, 5, 6):
            for light in ([1], [1, 2], list(range(1, n))):
                cuts = sorted([(cut, (9, 1)) for cut in ([2], [2, n - 1]) if len(cut) < n and cut[0] < cut[-1]]
                              + [(light, (1, FIFTY))])
                told = possible_cuts(summed(n, cuts))
                self.assertIn(light, told)
                self.assertIn(light, [cut for cut, weight in sum_with(summed(n, cuts), light)])

    def test_more_points_are_refused(self):
        for n in range(7, 12):
            for table in (line(n), nought(n), mixed(n), wild(n)):
                self.check_refused(TooMany, possible_cuts, table)
                for cut in ([1], list(range(1, n)), [], [0], [n], [2, 1], [1, 1], [-1]):
                    self.check_refused(TooMany, sum_with, table, cut)

    def test_other_lists_are_refused(self):
        for n in range(1, 7):
            for cut in (
                [], [0], [0, 1], [n], [-1], [1, n], [-1, 1], [1, 1], [2, 1], [1, 3, 2], [1, 2, 2], [n + 3],
                list(range(n)), list(range(1, n + 1)), [FIFTY], [-FIFTY], [1, FIFTY],
            ):
                for table in (line(n), nought(n), wild(n)):
                    self.check_refused(NoCut, sum_with, table, cut)

    def test_told_lists_are_the_askers_own(self):
        for table in (nought(1), nought(4), line(5), mixed(6), wild(5), of_pairs(4, [2] * 6)):
            self.check_free_of_what_was_told(possible_cuts, table)
            for cut in sides(len(table))[:4]:
                self.check_free_of_what_was_told(sum_with, table, cut)


if __name__ == "__main__":
    unittest.main()
