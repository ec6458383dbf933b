"""Point [17], the looking-at: what shows that a table is a sum of cuts, or that it is none; and [2], [4]."""

import copy
import itertools
import unittest
from fractions import Fraction

from helping import FIFTY, FORTY, AskCase, bar_products, chance_of, drawn_cuts, drawn_long, drawn_table, line
from helping import moved, nought, of_pairs, pair, parts, sides, summed

from farcuts.papers import shows

PENTAGON = (1, 1, 1, -1, -1)
# Two points, each one road from each of three others.
TWO_AND_THREE = of_pairs(5, [2, 2, 1, 1, 2, 1, 1, 1, 1, 2])
PENTAGON_BARS = [pair(Fraction(-product)) for product in bar_products(5, PENTAGON)]


def bars_show(table, numbers):
    n = len(table)
    pairs = list(itertools.combinations(range(n), 2))
    if len(numbers) != len(pairs):
        return False
    for cut in sides(n):
        if sum(Fraction(*q) for q, two in zip(numbers, pairs) if parts(cut, *two)) < 0:
            return False
    return sum(Fraction(*q) * Fraction(*table[i][j]) for q, (i, j) in zip(numbers, pairs)) < 0


class ShowsCase(AskCase):
    def check_told(self, table, answer, due):
        told = self.asked_truth(table, answer)
        self.assertIs(told, due, (table, answer))

    def asked_truth(self, table, answer):
        kept = copy.deepcopy((table, answer))
        told = shows(table, answer)
        self.assertEqual((table, answer), kept)
        self.assertIs(shows(table, answer), told)
        return told


class CutsShown(ShowsCase):
    def test_the_cuts_of_their_table(self):
        chance = chance_of(50)
        for n in range(1, 11):
            for many in (0, 1, 3, 9):
                cuts = drawn_cuts(chance, n, many)
                self.check_told(summed(n, cuts), ("cuts", cuts), True)

    def test_two_sums_of_one_table(self):
        table = of_pairs(4, [2] * 6)
        self.check_told(table, ("cuts", [([1, 2], (1, 1)), ([1, 3], (1, 1)), ([2, 3], (1, 1))]), True)
        ones = [([1], (1, 1)), ([1, 2, 3], (1, 1)), ([2], (1, 1)), ([3], (1, 1))]
        self.check_told(table, ("cuts", ones), True)
        half = [(cut, (1, 2)) for cut in sides(4)]
        self.check_told(table, ("cuts", half), True)

    def test_one_thing_otherwise(self):
        chance = chance_of(51)
        for n in (2, 3, 5, 7, 10):
            cuts = drawn_cuts(chance, n, 6)
            table = summed(n, cuts)
            for place, (cut, weight) in enumerate(cuts):
                before, behind = cuts[:place], cuts[place + 1:]
                self.check_told(table, ("cuts", before + behind), False)
                self.check_told(table, ("cuts", before + [cuts[place]] * 2 + behind), False)
                self.check_told(table, ("cuts", before + [(cut[::-1] + [0], weight)] + behind), False)
                for by in (Fraction(1), Fraction(1, FIFTY), -Fraction(1, FIFTY)):
                    other = pair(Fraction(*weight) + by)
                    self.check_told(table, ("cuts", before + [(cut, other)] + behind), False)
                for bad in ((0, 1), (-weight[0], weight[1]), (2 * weight[0], 2 * weight[1]), list(weight), weight[0]):
                    self.check_told(table, ("cuts", before + [(cut, bad)] + behind), False)
            for i, j in itertools.combinations(range(min(n, 5)), 2):
                self.check_told(moved(table, i, j, Fraction(1, FIFTY)), ("cuts", cuts), False)

    def test_a_cut_more(self):
        chance = chance_of(52)
        for n in (2, 3, 4, 5):
            for cut in sides(n):
                self.check_told(nought(n), ("cuts", [(cut, (1, FIFTY))]), False)
                # Weights of 0 and a cut that is taken away again make the same table, but are no weighted cuts.
                self.check_told(nought(n), ("cuts", [(cut, (0, 1))]), False)
                self.check_told(nought(n), ("cuts", [(cut, (1, 1)), (cut, (-1, 1))]), False)
                table = summed(n, [(cut, (2, 1))])
                self.check_told(table, ("cuts", [(cut, (1, 1)), (cut, (1, 1))]), False)

    def test_another_order_or_side(self):
        cuts = [([1], (1, 1)), ([1, 2], (2, 1)), ([3], (3, 1))]
        table = summed(4, cuts)
        self.check_told(table, ("cuts", cuts), True)
        for order in itertools.permutations(cuts):
            self.check_told(table, ("cuts", list(order)), list(order) == cuts)
        self.check_told(table, ("cuts", [([0, 3], (2, 1)), ([1], (1, 1)), ([3], (3, 1))]), False)
        self.check_told(table, ("cuts", [([1], (1, 1)), ([2, 1], (2, 1)), ([3], (3, 1))]), False)
        self.check_told(table, ("cuts", [([1], (1, 1)), ([1, 2, 2], (2, 1)), ([3], (3, 1))]), False)

    def test_points_that_are_none(self):
        for cut in ([4], [-1], [1, 4], [], [0], [FIFTY]):
            self.check_told(nought(4), ("cuts", [(cut, (1, 1))]), False)
            self.check_told(line(4), ("cuts", [(cut, (1, 1))]), False)

    def test_a_weight_below_nought_that_adds_up(self):
        # The table is a sum with one weight below 0, which shows nothing.
        weights = {(1,): -1, (1, 2): 2, (1, 3): 2, (2, 3): 2, (2,): -1}
        cuts = sorted((list(cut), (weight, 1)) for cut, weight in weights.items())
        self.check_told(summed(4, cuts), ("cuts", cuts), False)

    def test_long_lists(self):
        self.check_told(line(3), ("cuts", [([1], (1, 1))] * 1000), False)
        cuts = [(cut, (1, 1)) for cut in sides(10)]
        self.check_told(summed(10, cuts), ("cuts", cuts), True)
        self.check_told(summed(10, cuts[1:]), ("cuts", cuts), False)


class BarsShown(ShowsCase):
    def test_bars_of_short_ways(self):
        chance = chance_of(53)
        for n in range(3, 11):
            for i, j, k in itertools.islice(itertools.permutations(range(n), 3), 0, 60, 7):
                by_pair = {two: 0 for two in itertools.combinations(range(n), 2)}
                by_pair[min(i, j), max(i, j)] = by_pair[min(j, k), max(j, k)] = 1
                by_pair[min(i, k), max(i, k)] = -1
                numbers = [(number, 1) for number in by_pair.values()]
                for table in (drawn_table(chance, n), moved(line(n), i, k, Fraction(100)), line(n)):
                    self.check_told(table, ("bars", numbers), bars_show(table, numbers))
                self.check_told(moved(line(n), i, k, Fraction(100)), ("bars", numbers), True)

    def test_two_and_three(self):
        self.check_told(TWO_AND_THREE, ("bars", PENTAGON_BARS), True)
        grown = [(FORTY * top, bottom) for top, bottom in PENTAGON_BARS]
        self.check_told(TWO_AND_THREE, ("bars", grown), True)
        shrunk = [pair(Fraction(*q) / FORTY) for q in PENTAGON_BARS]
        self.check_told(TWO_AND_THREE, ("bars", shrunk), True)
        turned = [(-top, bottom) for top, bottom in PENTAGON_BARS]
        self.check_told(TWO_AND_THREE, ("bars", turned), False)

    def test_one_number_otherwise(self):
        for place in range(10):
            for by in (Fraction(1, FIFTY), -Fraction(1, FIFTY), Fraction(1), Fraction(-1), Fraction(9)):
                numbers = list(PENTAGON_BARS)
                numbers[place] = pair(Fraction(*numbers[place]) + by)
                due = bars_show(TWO_AND_THREE, numbers)
                self.check_told(TWO_AND_THREE, ("bars", numbers), due)
                # Each pair is parted by a cut whose sum is 0, so no number may be less, by however little.
                if by < 0:
                    self.assertIs(due, False)

    def test_other_lengths(self):
        for numbers in (PENTAGON_BARS[:-1], PENTAGON_BARS + [(0, 1)], PENTAGON_BARS + [(1, 1)], [], PENTAGON_BARS * 2):
            self.check_told(TWO_AND_THREE, ("bars", numbers), False)
        self.check_told(TWO_AND_THREE, ("bars", [(-1, 1)] * 1000), False)
        for n in range(1, 11):
            self.check_told(line(n), ("bars", []), False)
            self.check_told(line(n), ("bars", [(0, 1)] * (n * (n - 1) // 2)), False)
            self.check_told(line(n), ("bars", [(-1, 1)] * (n * (n - 1) // 2)), False)

    def test_just_nought_is_no_bar(self):
        # Every cut of the pentagon's with sum 0 makes a table for which the numbers add up to just 0.
        tight = [(cut, (1, 1)) for cut in sides(5) if sum(PENTAGON[point] for point in cut) in (0, 1)]
        table = summed(5, tight)
        self.check_told(table, ("bars", PENTAGON_BARS), False)
        worse = moved(table, 0, 1, Fraction(1, FIFTY))
        self.check_told(worse, ("bars", PENTAGON_BARS), True)
        better = moved(table, 0, 3, Fraction(1, FIFTY))
        self.check_told(better, ("bars", PENTAGON_BARS), False)

    def test_no_bar_of_a_sum_goes_by(self):
        chance = chance_of(54)
        for n in range(1, 8):
            many = n * (n - 1) // 2
            for turn in range(60):
                table = summed(n, drawn_cuts(chance, n, chance.randrange(2 * n)))
                numbers = [pair(Fraction(chance.randrange(-3, 6), chance.randrange(1, 3))) for one in range(many)]
                self.check_told(table, ("bars", numbers), False)
                self.assertIs(bars_show(table, numbers), False)

    def test_drawn_numbers(self):
        chance = chance_of(55)
        found = []
        for n in (3, 4, 5):
            for turn in range(150):
                table = drawn_table(chance, n, 4)
                numbers = [pair(Fraction(chance.choice((-1, 1, 1, 2)))) for one in range(n * (n - 1) // 2)]
                due = bars_show(table, numbers)
                self.check_told(table, ("bars", numbers), due)
                found.append(due)
        self.assertGreater(found.count(True), 3)

    def test_ten_points(self):
        for n in (8, 9, 10):
            numbers = [pair(Fraction(-product)) for product in bar_products(n, PENTAGON)]
            table = of_pairs(n, [2] * 45)
            self.check_told(table, ("bars", numbers), bars_show(table, numbers))
            table = of_pairs(n, [2 if product > 0 else 1 for product in bar_products(n, PENTAGON)])
            self.check_told(table, ("bars", numbers), True)
            table = drawn_long(chance_of(56), n)
            self.check_told(table, ("bars", numbers), bars_show(table, numbers))

    def test_things_that_are_no_fraction(self):
        for thing in ((2, 2), (0, 2), (1, -1), (1, 0), (True, 1), (1, True), 1, None, "1", [1, 1], (1,), (1, 1, 1), 1.0):
            for place in (0, 4, 9):
                numbers = list(PENTAGON_BARS)
                numbers[place] = thing
                self.check_told(TWO_AND_THREE, ("bars", numbers), False)


class OtherAnswers(ShowsCase):
    def test_lists_under_the_other_word(self):
        cuts = drawn_cuts(chance_of(57), 5, 5)
        self.check_told(summed(5, cuts), ("cuts", cuts), True)
        self.check_told(summed(5, cuts), ("bars", cuts), False)
        self.check_told(TWO_AND_THREE, ("cuts", PENTAGON_BARS), False)

    def test_no_list_on_one_point(self):
        self.check_told([[(0, 1)]], ("cuts", []), True)
        self.check_told([[(0, 1)]], ("bars", []), False)
        self.check_told([[(0, 1)]], ("bars", [(-1, 1)]), False)
        self.check_told([[(0, 1)]], ("cuts", [([1], (1, 1))]), False)

    def test_what_is_no_such_tuple(self):
        for answer in (
            None, True, "cuts", (), ("cuts",), ("cuts", [], []), ["cuts", []], ("sum", []), ("tree", []), ([], "cuts"),
            ("cuts", None), ("cuts", ()), ("bars", None), ("bars", ()), ("cuts", "none"), ("none", []), (0, []),
        ):
            self.check_told(nought(2), answer, False)


if __name__ == "__main__":
    unittest.main()
