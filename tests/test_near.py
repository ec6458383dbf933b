"""Points [28], [29], and [2], [3], [4] as far as they reach nearest sums."""

import copy
import itertools
import unittest
from fractions import Fraction

from helping import FIFTY, FORTY, AskCase, bar_products, built, chance_of, drawn_cuts, drawn_long, drawn_table, huge
from helping import line, mixed, moved, nought, of_pairs, pair, parts, sides, summed, wild

from farcuts.cuts import table_of
from farcuts.errors import TooMany
from farcuts.near import fault_of, nearest_sum, row_shows
from farcuts.sums import sum_told
from farcuts.tables import added, part_of, times_table

# Two points, each one road from each of three others: no sum by the products of 1, 1, 1, -1, -1.
TWO_AND_THREE = of_pairs(5, [2, 2, 1, 1, 2, 1, 1, 1, 1, 2])
PENTAGON = (1, 1, 1, -1, -1)


def pairs_of(n):
    return list(itertools.combinations(range(n), 2))


def due_fault(table, cuts):
    other = summed(len(table), cuts)
    apart = [abs(Fraction(*table[i][j]) - Fraction(*other[i][j])) for i, j in pairs_of(len(table))]
    return pair(max(apart, default=Fraction(0)))


def worth(table, row):
    return sum([Fraction(*q) * Fraction(*table[i][j]) for q, (i, j) in zip(row, pairs_of(len(table)))], Fraction(0))


def due_shows(table, row, number):
    """By the words of [29]."""
    n = len(table)
    if len(row) != len(pairs_of(n)):
        return False
    if sum(abs(Fraction(*q)) for q in row) > 1:
        return False
    for cut in sides(n):
        if sum(Fraction(*q) for q, two in zip(row, pairs_of(n)) if parts(cut, *two)) > 0:
            return False
    return worth(table, row) == Fraction(*number)


def barring_row(n, numbers, size=Fraction(1)):
    """The products of whole numbers that add up to 1, made so small that they are as much as the size together."""
    products = bar_products(n, numbers)
    whole = sum(abs(product) for product in products)
    return [pair(Fraction(product, whole) * size) for product in products]


class Faults(AskCase):
    def check_told(self, table, cuts):
        told = self.asked(fault_of, table, cuts)
        self.check_fraction(told)
        self.assertEqual(told, due_fault(table, cuts))
        return told

    def test_of_drawn_cuts(self):
        chance = chance_of(130)
        for n in range(1, 11):
            for many in (0, 1, 3, 9):
                cuts = drawn_cuts(chance, n, many)
                for table in (drawn_table(chance, n), drawn_long(chance, n), mixed(n), wild(n), huge(n), nought(n)):
                    self.check_told(table, cuts)
                self.assertEqual(self.check_told(summed(n, cuts), cuts), (0, 1))

    def test_one_distance_otherwise(self):
        chance = chance_of(131)
        for n in (2, 3, 6, 10):
            cuts = drawn_cuts(chance, n, 40)
            table = summed(n, cuts)
            for i, j in pairs_of(n):
                for by in (Fraction(1, FIFTY), Fraction(FORTY, 7), -min(Fraction(*table[i][j]), Fraction(1, 3))):
                    self.assertEqual(self.check_told(moved(table, i, j, by), cuts), pair(abs(by)))

    def test_by_hand(self):
        self.assertEqual(fault_of([[(0, 1)]], []), (0, 1))
        self.assertEqual(fault_of(of_pairs(2, [5]), []), (5, 1))
        self.assertEqual(fault_of(of_pairs(2, [5]), [([1], (7, 2))]), (3, 2))
        self.assertEqual(fault_of(of_pairs(2, [5]), [([1], (13, 2))]), (3, 2))
        self.assertEqual(fault_of(line(10), []), (9, 1))
        self.assertEqual(fault_of(nought(3), [([1], (1, 3)), ([1, 2], (1, 6)), ([2], (1, 5))]), (8, 15))
        # The greatest may be where the cuts are farther, or where the table is.
        self.assertEqual(fault_of(of_pairs(3, [1, 1, 5]), [([1, 2], (3, 1))]), (5, 1))
        self.assertEqual(fault_of(of_pairs(3, [1, 1, 1]), [([1, 2], (3, 1))]), (2, 1))


class NearestSums(AskCase):
    def check_told(self, table):
        """The cuts have the fault, and the row shows that none have a lesser one."""
        n = len(table)
        told = self.asked(nearest_sum, table)
        self.assertIs(type(told), tuple)
        self.assertEqual(len(told), 3)
        fault, cuts, row = told
        self.check_fraction(fault)
        self.check_weighted(n, cuts)
        self.assertIs(type(row), list)
        for number in row:
            self.check_fraction(number)
        self.assertEqual(due_fault(table, cuts), fault)
        self.assertEqual(fault_of(table, cuts), fault)
        self.assertIs(due_shows(table, row, fault), True)
        self.assertIs(row_shows(table, row, fault), True)
        return fault

    def test_sums(self):
        chance = chance_of(132)
        for n in range(1, 6):
            for many in (0, 1, 2, 4, 7, 15):
                for turn in range(3):
                    self.assertEqual(self.check_told(summed(n, drawn_cuts(chance, n, many))), (0, 1))

    def test_nearly_sums(self):
        chance = chance_of(133)
        found = []
        for n in range(2, 6):
            for many in (1, 3, 7, 15):
                table = summed(n, drawn_cuts(chance, n, many))
                for i, j in pairs_of(n):
                    fault = self.check_told(moved(table, i, j, Fraction(1, FIFTY)))
                    self.assertLessEqual(Fraction(*fault), Fraction(1, FIFTY))
                    found.append(fault)
        self.assertIn((0, 1), found)
        self.assertGreater(len([fault for fault in found if fault[0]]), 10)

    def test_far_from_sums(self):
        chance = chance_of(134)
        for n in range(1, 6):
            for turn in range(20):
                for table in (drawn_table(chance, n), drawn_table(chance, n, 1), drawn_table(chance, n, 90)):
                    self.check_told(table)
            for table in (line(n), mixed(n), mixed(n, 7), wild(n), wild(n, 4), huge(n), nought(n), drawn_long(chance, n)):
                self.check_told(table)

    def test_nought_just_for_sums(self):
        chance = chance_of(135)
        for n in range(1, 6):
            for turn in range(12):
                for table in (drawn_table(chance, n), drawn_long(chance, n)):
                    self.assertEqual(self.check_told(table) == (0, 1), sum_told(table)[0] == "cuts")

    def test_all_small_tables_of_four_points(self):
        for numbers in itertools.product(range(3), repeat=6):
            self.check_told(of_pairs(4, numbers))

    def test_long_bottoms(self):
        for n in range(2, 6):
            self.check_told(built(n, lambda i, j: Fraction(FIFTY - 7 * i, FIFTY - i - 10 * j)))
            self.check_told(built(n, lambda i, j: Fraction((i * j + i) % 3 + 1, FIFTY - i - 10 * j)))

    def test_by_hand(self):
        self.assertEqual(nearest_sum([[(0, 1)]]), ((0, 1), [], []))
        self.assertEqual(nearest_sum(of_pairs(2, [FIFTY]))[:2], ((0, 1), [([1], (FIFTY, 1))]))
        # A way that is too long by 7: a third of it each way.
        self.assertEqual(nearest_sum(of_pairs(3, [1, 9, 1]))[0], (7, 3))
        self.assertEqual(nearest_sum(of_pairs(3, [0, 1, 0]))[0], (1, 3))
        # Ten products: four above 0 with a distance of 2, six below it with one of 1. That is 2, and a tenth of it.
        self.assertEqual(self.check_told(TWO_AND_THREE), (1, 5))
        self.assertEqual(self.check_told(times_table((FORTY, 3), TWO_AND_THREE)), pair(Fraction(FORTY, 15)))
        for n in range(1, 6):
            self.assertEqual(nearest_sum(nought(n))[0], (0, 1))

    def test_put_together_is_no_farther(self):
        chance = chance_of(136)
        for n in range(2, 6):
            one, other = drawn_table(chance, n), drawn_table(chance, n)
            both = Fraction(*self.check_told(one)) + Fraction(*self.check_told(other))
            self.assertLessEqual(Fraction(*self.check_told(added(one, other))), both)
            part = part_of(one, chance.sample(range(n), n - 1))
            self.assertLessEqual(Fraction(*self.check_told(part)), Fraction(*self.check_told(one)))

    def test_the_nearest_table_is_nearest_to_itself(self):
        fault, cuts, row = nearest_sum(TWO_AND_THREE)
        self.assertEqual(self.check_told(table_of(5, cuts)), (0, 1))

    def test_more_points_are_refused(self):
        for n in range(6, 12):
            for table in (line(n), nought(n), mixed(n), wild(n), huge(n)):
                self.check_refused(TooMany, nearest_sum, table)

    def test_told_lists_are_the_askers_own(self):
        for table in (nought(1), nought(4), line(5), TWO_AND_THREE, wild(5), wild(3)):
            self.check_free_of_what_was_told(nearest_sum, table)


class RowsShown(AskCase):
    def check_told(self, table, row, number, due=None):
        kept = copy.deepcopy((table, row, number))
        told = row_shows(table, row, number)
        self.assertEqual((table, row, number), kept)
        self.assertIs(told, due_shows(table, row, number))
        self.assertIs(row_shows(table, row, number), told)
        if due is not None:
            self.assertIs(told, due)

    def test_rows_that_bar(self):
        chance = chance_of(137)
        for n in range(3, 11):
            for numbers in ((1, 1, -1), PENTAGON, (2, 1, 1, -1, -1, -1), (1, 1, 1, 1, -1, -1, -1)):
                if len(numbers) <= n:
                    for table in (drawn_table(chance, n), line(n), mixed(n), huge(n), nought(n)):
                        for size in (Fraction(1), Fraction(1, 3), Fraction(1, FIFTY)):
                            row = barring_row(n, numbers, size)
                            self.check_told(table, row, pair(worth(table, row)), True)

    def test_one_thing_otherwise(self):
        chance = chance_of(138)
        for n in (3, 4, 5):
            for turn in range(4):
                table = drawn_table(chance, n, 9)
                fault, cuts, row = nearest_sum(table)
                self.check_told(table, row, fault, True)
                for by in (Fraction(1), Fraction(1, FIFTY), -Fraction(1, FIFTY)):
                    self.check_told(table, row, pair(Fraction(*fault) + by), False)
                for place in range(len(row)):
                    for by in (Fraction(1), Fraction(1, FIFTY), -Fraction(1, FIFTY), -Fraction(1, 7)):
                        other = row[:place] + [pair(Fraction(*row[place]) + by)] + row[place + 1:]
                        self.check_told(table, other, fault)
                        # With the number that it would show, only its size and the cuts are asked.
                        self.check_told(table, other, pair(worth(table, other)))
                    self.check_told(table, row[:place] + row[place + 1:], fault, False)
                    self.check_told(table, row[:place] + [(0, 1)] + row[place:], fault, False)

    def test_size(self):
        for n in (3, 5, 7, 10):
            row = barring_row(n, (1, 1, -1))
            table = mixed(n)
            self.check_told(table, row, pair(worth(table, row)), True)
            for more in (Fraction(1, FIFTY), Fraction(1)):
                longer = barring_row(n, (1, 1, -1), 1 + more)
                self.check_told(table, longer, pair(worth(table, longer)), False)

    def test_each_cut_counts(self):
        # A pair of its own is parted by some cut: a row with one number above 0 alone shows nothing.
        for n in range(2, 8):
            table = line(n)
            for place in range(len(pairs_of(n))):
                for number, due in (((1, 1), False), ((1, FIFTY), False), ((-1, 1), True), ((-1, FIFTY), True)):
                    row = [(0, 1)] * len(pairs_of(n))
                    row[place] = number
                    self.check_told(table, row, pair(worth(table, row)), due)

    def test_each_number_counts(self):
        # Each of the ten products moved up a little: the cuts that part the pair and were at 0 go above it.
        row = barring_row(5, PENTAGON, Fraction(1, 2))
        for place in range(10):
            other = row[:place] + [pair(Fraction(*row[place]) + Fraction(1, FIFTY))] + row[place + 1:]
            self.check_told(TWO_AND_THREE, other, pair(worth(TWO_AND_THREE, other)), False)
            other = row[:place] + [pair(Fraction(*row[place]) - Fraction(1, FIFTY))] + row[place + 1:]
            self.check_told(TWO_AND_THREE, other, pair(worth(TWO_AND_THREE, other)), True)

    def test_drawn_rows(self):
        chance = chance_of(139)
        found = []
        for n in range(1, 6):
            for turn in range(60):
                row = [pair(Fraction(chance.randrange(-4, 2), 20)) for two in pairs_of(n)]
                table = drawn_table(chance, n, 3)
                number = pair(worth(table, row))
                self.check_told(table, row, number)
                found.append(row_shows(table, row, number))
        self.assertGreater(found.count(True), 20)
        self.assertGreater(found.count(False), 20)

    def test_numbers_below_nought_and_nought(self):
        for n in range(1, 11):
            many = len(pairs_of(n))
            row = [(0, 1)] * many
            self.check_told(line(n), row, (0, 1), True)
            self.check_told(line(n), row, (1, FIFTY), False)
            self.check_told(line(n), row, (-1, 1), False)
            if many:
                row = [(-1, many)] * many
                self.check_told(line(n), row, pair(worth(line(n), row)), True)

    def test_other_lengths(self):
        for n in range(1, 11):
            many = len(pairs_of(n))
            for length in (0, 1, many - 1, many + 1, 2 * many, 1000):
                if length >= 0 and length != many:
                    self.check_told(line(n), [(0, 1)] * length, (0, 1), False)

    def test_no_lesser_fault(self):
        chance = chance_of(140)
        for n in range(2, 8):
            for turn in range(10):
                table = drawn_table(chance, n, 5)
                row = barring_row(n, (1, 1, -1)) if n > 2 else [(-1, 2)]
                shown = worth(table, row)
                self.check_told(table, row, pair(shown), True)
                for many in (0, 2, 5):
                    cuts = drawn_cuts(chance, n, many, plain=True)
                    self.assertGreaterEqual(Fraction(*fault_of(table, cuts)), shown)


if __name__ == "__main__":
    unittest.main()
