"""Point [27], and [2], [3], [4] as far as they reach what is told in one way only."""

import itertools
import unittest
from fractions import Fraction

from helping import FIFTY, FORTY, AskCase, built, chance_of, drawn_cuts, drawn_long, drawn_table, drawn_tree, huge
from helping import line, mixed, moved, nought, of_pairs, parts, sides, summed, wild

from farcuts.alone import one_way, stand_alone
from farcuts.errors import TooMany
from farcuts.papers import shows
from farcuts.sums import possible_cuts, sum_told

# Two points, each one road from each of three others.
TWO_AND_THREE = of_pairs(5, [2, 2, 1, 1, 2, 1, 1, 1, 1, 2])


def rank(rows):
    """By Python's own fractions."""
    rows = [[Fraction(number) for number in row] for row in rows]
    found = 0
    for column in range(len(rows[0]) if rows else 0):
        chosen = next((row for row in rows[found:] if row[column]), None)
        if chosen is not None:
            rows.remove(chosen)
            rows.insert(found, chosen)
            found += 1
            for place in range(found, len(rows)):
                factor = rows[place][column] / chosen[column]
                rows[place] = [x - factor * y for x, y in zip(rows[place], chosen)]
    return found


def parted(n, cut):
    return [int(parts(cut, i, j)) for i, j in itertools.combinations(range(n), 2)]


def due_alone(n, cuts):
    return rank([parted(n, cut) for cut in cuts]) == len(cuts)


class OneWay(AskCase):
    def check_told(self, table):
        n = len(table)
        told = self.asked(one_way, table)
        self.assertIs(type(told), tuple)
        self.assertIn((told[0], len(told)), (("one", 2), ("several", 3), ("none", 1)))
        for cuts in told[1:]:
            self.check_weighted(n, cuts)
            self.assertEqual(summed(n, cuts), table)
        if told[0] == "several":
            self.assertNotEqual(told[1], told[2])
        if told[0] == "none":
            self.check_none(table)
        if told[0] == "one":
            self.check_one(table, told[1])
        return told[0]

    def check_none(self, table):
        bars = sum_told(table)
        self.assertEqual(bars[0], "bars")
        self.assertIs(shows(table, bars), True)

    def check_one(self, table, cuts):
        """The cuts stand alone, so another sum would have a cut besides. None of these can be taken off, however light
        it is: numbers bar what is left. (Of tables of small numbers no weight there can be is so light.)"""
        n = len(table)
        own = [cut for cut, weight in cuts]
        self.assertTrue(due_alone(n, own))
        for cut in sides(n):
            if cut not in own:
                pairs = itertools.combinations(range(n), 2)
                less = [Fraction(*table[i][j]) - Fraction(int(parts(cut, i, j)), FORTY) for i, j in pairs]
                if min(less) >= 0:
                    self.check_none(of_pairs(n, less))

    def test_sums_of_drawn_cuts(self):
        chance = chance_of(120)
        found = []
        for n in range(1, 6):
            for many in (0, 1, 2, 3, 4, 5, 6, 8, 12, 15):
                cuts = drawn_cuts(chance, n, many, plain=True)
                told = self.check_told(summed(n, cuts))
                found.append(told)
                if told == "one":
                    self.assertEqual(one_way(summed(n, cuts)), ("one", cuts))
        self.assertNotIn("none", found)
        self.assertGreater(found.count("one"), 20)
        self.assertGreater(found.count("several"), 5)

    def test_sums_of_long_weights(self):
        chance = chance_of(121)
        for n in range(1, 6):
            for many in (1, 3, 5, 15):
                table = summed(n, drawn_cuts(chance, n, many))
                told = self.asked(one_way, table)
                self.assertIn(told[0], ("one", "several"))
                self.assertEqual(told[0] == "one", stand_alone(n, possible_cuts(table)))
                for cuts in told[1:]:
                    self.assertEqual(summed(n, cuts), table)

    def test_other_tables(self):
        chance = chance_of(122)
        found = []
        for n in range(1, 6):
            for turn in range(8):
                for table in (drawn_table(chance, n, 4), drawn_table(chance, n, 1), drawn_long(chance, n)):
                    found.append(self.check_told(table))
            for table in (line(n), mixed(n), wild(n), huge(n), nought(n)):
                found.append(self.asked(one_way, table)[0])
        for told in ("one", "several", "none"):
            self.assertGreater(found.count(told), 10)

    def test_all_small_tables_of_four_points(self):
        # The one sum of all seven cuts that is nought takes the four single points with one sign, the three cuts of two
        # and two with the other: so there are several sums just where all of the one kind or of the other can be.
        found = {}
        for numbers in itertools.product(range(3), repeat=6):
            table = of_pairs(4, numbers)
            told = self.asked(one_way, table)
            found[told[0]] = found.get(told[0], 0) + 1
            is_sum = sum_told(table)[0] == "cuts"
            self.assertEqual(told[0] == "none", not is_sum)
            if is_sum:
                own = [cut for cut, weight in told[1]]
                singles = all(cut in own for cut in ([1], [2], [3], [1, 2, 3]))
                doubles = all(cut in own for cut in ([1, 2], [1, 3], [2, 3]))
                self.assertEqual(told[0] == "several", singles or doubles)
        self.assertEqual(sorted(found), ["none", "one", "several"])

    def test_of_up_to_three_points_in_one_way(self):
        for n in (1, 2, 3):
            for numbers in itertools.product(range(5), repeat=n * (n - 1) // 2):
                self.assertIn(self.check_told(of_pairs(n, numbers)), ("one", "none"))

    def test_trees_of_little(self):
        chance = chance_of(123)
        for n in (2, 3, 4, 5):
            cuts = drawn_tree(chance, n, plain=True)[:2]
            self.assertEqual(self.asked(one_way, summed(n, cuts)), ("one", cuts))

    def test_just_where_the_possible_ones_stand_alone(self):
        chance = chance_of(124)
        for n in range(1, 6):
            for turn in range(6):
                table = summed(n, drawn_cuts(chance, n, 5, plain=True))
                alone = due_alone(n, possible_cuts(table))
                self.assertEqual(one_way(table)[0], "one" if alone else "several")

    def test_by_hand(self):
        self.assertEqual(one_way([[(0, 1)]]), ("one", []))
        for n in range(1, 6):
            self.assertEqual(one_way(nought(n)), ("one", []))
        self.assertEqual(one_way(of_pairs(2, [FIFTY])), ("one", [([1], (FIFTY, 1))]))
        self.assertEqual(one_way(of_pairs(3, [3, 4, 5])), ("one", [([1], (2, 1)), ([1, 2], (1, 1)), ([2], (3, 1))]))
        self.assertEqual(one_way(of_pairs(4, [1, 2, 1, 1, 2, 1])), ("one", [([1, 2], (1, 1)), ([2, 3], (1, 1))]))
        self.assertEqual(self.check_told(of_pairs(4, [2] * 6)), "several")
        self.assertEqual(self.check_told(of_pairs(5, [Fraction(1, 7)] * 10)), "several")
        self.assertEqual(one_way(of_pairs(3, [1, 9, 1])), ("none",))
        self.assertEqual(one_way(TWO_AND_THREE), ("none",))

    def test_several_by_very_little(self):
        # Three cuts of two and two make the four single ones possible, however light the lightest one is.
        cuts = [([1, 2], (1, FIFTY)), ([1, 3], (1, 1)), ([2, 3], (5, 1))]
        told = self.asked(one_way, summed(4, cuts))
        self.assertEqual(told[0], "several")
        self.assertEqual(summed(4, told[1]), summed(4, told[2]))
        self.assertEqual(one_way(summed(4, cuts[1:])), ("one", cuts[1:]))

    def test_none_by_very_little(self):
        for n in (3, 4, 5):
            self.assertEqual(self.check_told(moved(line(n), 0, n - 1, Fraction(1, FIFTY))), "none")

    def test_more_points_are_refused(self):
        for n in range(6, 12):
            for table in (line(n), nought(n), mixed(n), wild(n), built(n, lambda i, j: 1)):
                self.check_refused(TooMany, one_way, table)

    def test_told_lists_are_the_askers_own(self):
        for table in (nought(1), nought(4), line(5), of_pairs(4, [2] * 6), of_pairs(5, [2] * 10), TWO_AND_THREE):
            self.check_free_of_what_was_told(one_way, table)

    def test_told_cuts_are_handed_in_again(self):
        told = one_way(of_pairs(5, [Fraction(FIFTY, FIFTY - 2)] * 10))
        for cuts in told[1:]:
            self.assertIs(shows(of_pairs(5, [Fraction(FIFTY, FIFTY - 2)] * 10), ("cuts", cuts)), True)


class StandAlone(AskCase):
    def check_told(self, n, cuts):
        told = self.asked_truth(n, cuts)
        self.assertIs(told, due_alone(n, cuts))
        return told

    def asked_truth(self, n, cuts):
        kept = [list(cut) for cut in cuts]
        told = stand_alone(n, cuts)
        self.assertEqual(cuts, kept)
        self.assertIs(stand_alone(n, cuts), told)
        return told

    def test_all_lists_of_cuts_of_up_to_four_points(self):
        for n in (1, 2, 3, 4):
            for many in range(len(sides(n)) + 1):
                for cuts in itertools.combinations(sides(n), many):
                    # Only all seven of four points do not.
                    self.assertIs(self.check_told(n, list(cuts)), many < 7)

    def test_drawn_ones(self):
        chance = chance_of(125)
        found = []
        for n in range(4, 11):
            for many in (1, 2, 4, 6, 8, 10, 14, n * (n - 1) // 2):
                cuts = chance.sample(sides(n), min(many, len(sides(n))))
                found.append(self.check_told(n, cuts))
        self.assertIn(True, found)
        self.assertIn(False, found)

    def test_few_cuts_of_which_few_points_are_parted(self):
        # Seven cuts of the first four points alone, with others on one side: they do not stand alone.
        for n in range(4, 11):
            cuts = sides(4)
            self.assertIs(self.check_told(n, cuts), False if n == 4 else due_alone(n, cuts))
            cuts = [cut + list(range(4, n)) if 3 in cut else cut for cut in sides(4)]
            self.assertIs(self.check_told(n, cuts), False)
            self.assertIs(self.check_told(n, cuts[1:]), True)
            self.assertIs(self.check_told(n, cuts[:3] + cuts[4:]), True)

    def test_any_order(self):
        chance = chance_of(126)
        for n in (4, 5, 6):
            for many in (3, 7, 9):
                cuts = chance.sample(sides(n), min(many, len(sides(n))))
                told = self.check_told(n, cuts)
                for turn in range(5):
                    self.assertIs(self.check_told(n, chance.sample(cuts, len(cuts))), told)

    def test_as_many_as_pairs(self):
        # The cuts of one and two points stand alone, and there are as many as pairs of points; one more never does.
        for n in range(5, 11):
            cuts = [cut for cut in sides(n) if len(cut) < 3]
            self.assertEqual(len(cuts), n * (n - 1) // 2)
            self.assertIs(self.asked_truth(n, cuts), True)
            self.assertIs(self.asked_truth(n, cuts[::-1]), True)
            for cut in sides(n)[2:12]:
                if cut not in cuts:
                    self.assertIs(self.asked_truth(n, cuts + [cut]), False)
            self.assertIs(self.asked_truth(n, sides(n)), False)

    def test_none_and_one(self):
        for n in range(1, 11):
            self.assertIs(stand_alone(n, []), True)
            for cut in sides(n)[:30]:
                self.assertIs(stand_alone(n, [cut]), True)

    def test_weights_have_no_say(self):
        for n in (2, 3, 4, 5):
            cuts = sides(n)
            weighted = [(cut, (place + 1, 7)) for place, cut in enumerate(cuts)]
            for many in range(len(cuts) + 1):
                self.assertIs(stand_alone(n, weighted[:many]), due_alone(n, cuts[:many]))

    def test_told_cuts_are_handed_in(self):
        self.assertIs(stand_alone(4, possible_cuts(of_pairs(4, [2] * 6))), False)
        self.assertIs(stand_alone(6, possible_cuts(line(6))), True)


if __name__ == "__main__":
    unittest.main()
