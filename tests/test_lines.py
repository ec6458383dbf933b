"""Points [22], [23], and [2], [3] as far as they reach lines."""

import itertools
import unittest
from fractions import Fraction

from helping import FIFTY, FORTY, AskCase, built, chance_of, changed, drawn_cuts, drawn_long, drawn_table, huge, line
from helping import many_tables, mixed, moved, nought, of_pairs, pair, sides, summed, wild

from farcuts.cuts import first_crossing, table_of
from farcuts.errors import NoTable
from farcuts.lines import line_cuts, line_told
from farcuts.tables import part_of
from farcuts.trees import tree_told


def far(table, i, j):
    return Fraction(*table[i][j])


def on_line(places):
    """The table of points at these places."""
    return built(len(places), lambda i, j: abs(places[i] - places[j]))


def due_places(table):
    """Places by trying out the two sides of point 0 for each point, or None."""
    found = [[Fraction(0)]]
    for point in range(1, len(table)):
        grown = []
        for begun in found:
            for place in {far(table, 0, point), -far(table, 0, point)}:
                if all(abs(place - other) == far(table, point, k) for k, other in enumerate(begun)):
                    grown.append(begun + [place])
        found = grown
    fitting = [places for places in found if next((place for place in places if place), 0) >= 0]
    return fitting[0] if fitting else None


def due_bars(table):
    for many in (3, 4):
        for points in itertools.combinations(range(len(table)), many):
            if due_places([[table[i][j] for j in points] for i in points]) is None:
                return points
    return None


def drawn_places(chance, n, kind):
    if kind == 0:
        return [Fraction(chance.randrange(-3, 4)) for point in range(n)]
    if kind == 1:
        return [Fraction(chance.randrange(-40, 41), chance.randrange(1, 9)) for point in range(n)]
    if kind == 2:
        return [Fraction(chance.randrange(-FORTY, FORTY), FORTY - chance.randrange(3)) for point in range(n)]
    return [Fraction(chance.choice((-FORTY, 0, FORTY, 1))) for point in range(n)]


class LineCase(AskCase):
    def check_told(self, table):
        """What is told is by the words of [22], and just one of both is."""
        told = self.asked(line_told, table)
        self.assertIs(type(told), tuple)
        self.assertEqual(len(told), 2)
        places = due_places(table)
        bars = due_bars(table)
        self.assertEqual(places is None, bars is not None)
        if places is None:
            self.assertEqual(told, ("bars", bars))
            self.assertIs(type(told[1]), tuple)
            self.assertEqual([type(point) for point in told[1]], [int] * len(bars))
        else:
            self.assertEqual(told, ("line", [pair(place) for place in places]))
            self.assertIs(type(told[1]), list)
            for place in told[1]:
                self.check_fraction(place)
        return told


class LinesTold(LineCase):
    def test_points_on_a_line(self):
        chance = chance_of(100)
        for n in range(1, 11):
            for turn in range(12):
                places = drawn_places(chance, n, turn % 4)
                self.assertEqual(self.check_told(on_line(places))[0], "line")

    def test_places_begin_at_point_0_and_go_up_first(self):
        for places in itertools.product(range(-2, 3), repeat=4):
            told = self.check_told(on_line(places))
            from_first = [place - places[0] for place in places]
            first = next((place for place in from_first if place), 0)
            self.assertEqual(told, ("line", [(place if first >= 0 else -place, 1) for place in from_first]))

    def test_one_or_two_distances_otherwise(self):
        chance = chance_of(101)
        found = []
        for n in range(2, 11):
            for turn in range(6):
                table = on_line(drawn_places(chance, n, turn % 4))
                for many in (1, 2):
                    other = table
                    for i, j in chance.sample(list(itertools.combinations(range(n), 2)), min(many, n * (n - 1) // 2)):
                        by = chance.choice((Fraction(1, FIFTY), Fraction(1), Fraction(3, 2), Fraction(FORTY)))
                        other = moved(other, i, j, by)
                    told = self.check_told(other)
                    found.append((told[0], len(told[1]) if told[0] == "bars" else 0))
        self.assertIn(("bars", 3), found)
        self.assertIn(("line", 0), found)

    def test_every_one_distance_otherwise(self):
        for n in (3, 4, 5, 7):
            for i, j in itertools.combinations(range(n), 2):
                self.assertEqual(self.check_told(moved(line(n), i, j, Fraction(1, FIFTY)))[0], "bars")
                self.assertEqual(self.check_told(moved(nought(n), i, j, Fraction(2)))[0], "bars")

    def test_all_small_tables_of_four_points(self):
        found = {}
        for numbers in itertools.product(range(4), repeat=6):
            told = self.check_told(of_pairs(4, numbers))
            found.setdefault((told[0], len(told[1])), []).append(numbers)
        self.assertEqual(sorted(found), [("bars", 3), ("bars", 4), ("line", 4)])

    def test_other_tables(self):
        chance = chance_of(102)
        for n in range(1, 8):
            for table in (drawn_table(chance, n, 2), drawn_table(chance, n, 1), drawn_long(chance, n), mixed(n), wild(n)):
                self.check_told(table)
        for table in many_tables():
            told = line_told(table)
            self.assertEqual(told[0] == "bars", due_places(table) is None)

    def test_four_points_of_which_each_three_fit(self):
        # A ring of four: opposite points are as far as both ways round.
        for a, b in ((1, 1), (2, 3), (Fraction(1, 3), FORTY)):
            table = of_pairs(4, [a, a + b, b, b, a + b, a])
            self.assertEqual(self.check_told(table), ("bars", (0, 1, 2, 3)))
        ring = of_pairs(4, [1, 2, 1, 1, 2, 1])
        # The first point twice: each three fit, the first four that do not begin with point 0.
        twice = part_or_copies(ring, [0, 0, 1, 2, 3])
        self.assertEqual(self.check_told(twice), ("bars", (0, 2, 3, 4)))
        twice = part_or_copies(ring, [0, 1, 1, 2, 2, 3])
        self.assertEqual(self.check_told(twice), ("bars", (0, 1, 3, 5)))
        for n in (6, 8, 10):
            points = [0] * (n - 3) + [1, 2, 3]
            self.assertEqual(self.check_told(part_or_copies(ring, points)), ("bars", (0, n - 3, n - 2, n - 1)))

    def test_three_points_go_ahead_of_four(self):
        # 0, 1, 2, 3 are a ring of four, and the first three that do not fit come behind it in order.
        table = of_pairs(5, [1, 2, 1, 9, 1, 2, 9, 1, 9, 9])
        self.assertEqual(self.check_told(table), ("bars", (0, 1, 4)))
        # The same ring, and point 4 where point 0 is, but for how far it is from point 3.
        table = of_pairs(5, [1, 2, 1, 0, 1, 2, 1, 1, 2, 2])
        self.assertEqual(self.check_told(table), ("bars", (0, 3, 4)))

    def test_first_three_by_hand(self):
        self.assertEqual(line_told(of_pairs(3, [1, 1, 1])), ("bars", (0, 1, 2)))
        self.assertEqual(line_told(of_pairs(3, [1, 9, 1])), ("bars", (0, 1, 2)))
        self.assertEqual(line_told(of_pairs(3, [0, 1, 2])), ("bars", (0, 1, 2)))
        self.assertEqual(line_told(changed(line(4), 2, 3, (2, 1))), ("bars", (0, 2, 3)))
        self.assertEqual(line_told(changed(line(5), 3, 4, (0, 1))), ("bars", (0, 3, 4)))
        self.assertEqual(line_told(changed(line(5), 1, 4, (1, 1))), ("bars", (0, 1, 4)))
        # 0, 1, 2 at one place, 3 as far from 1 and 2 but not from 0.
        self.assertEqual(line_told(of_pairs(4, [0, 0, 1, 0, 2, 2])), ("bars", (0, 1, 3)))
        self.assertEqual(line_told(of_pairs(4, [0, 0, 1, 0, 1, 2])), ("bars", (0, 2, 3)))
        self.assertEqual(line_told(of_pairs(4, [0, 0, 0, 0, 0, 1])), ("bars", (0, 2, 3)))

    def test_lines_by_hand(self):
        self.assertEqual(line_told([[(0, 1)]]), ("line", [(0, 1)]))
        self.assertEqual(line_told(of_pairs(2, [0])), ("line", [(0, 1), (0, 1)]))
        self.assertEqual(line_told(of_pairs(2, [Fraction(3, 7)])), ("line", [(0, 1), (3, 7)]))
        self.assertEqual(line_told(of_pairs(2, [FIFTY])), ("line", [(0, 1), (FIFTY, 1)]))
        self.assertEqual(line_told(of_pairs(3, [1, 1, 2])), ("line", [(0, 1), (1, 1), (-1, 1)]))
        self.assertEqual(line_told(of_pairs(3, [0, 1, 1])), ("line", [(0, 1), (0, 1), (1, 1)]))
        self.assertEqual(
            line_told(on_line([Fraction(1, 2), Fraction(1, 2), Fraction(0), Fraction(2, 3)])),
            ("line", [(0, 1), (0, 1), (1, 2), (-1, 6)]),
        )
        for n in range(1, 11):
            self.assertEqual(line_told(nought(n)), ("line", [(0, 1)] * n))
            self.assertEqual(line_told(line(n)), ("line", [(point, 1) for point in range(n)]))

    def test_told_lists_are_the_askers_own(self):
        for table in (nought(1), nought(4), line(6), mixed(5), wild(6), of_pairs(4, [1, 2, 1, 1, 2, 1])):
            self.check_free_of_what_was_told(line_told, table)

    def test_told_numbers_are_handed_in_again(self):
        places = [Fraction(FIFTY - k, FIFTY - 3 * k - 1) for k in range(6)]
        told = self.check_told(on_line(places))
        self.assertEqual(self.check_told(on_line([Fraction(*place) for place in told[1]])), told)


def part_or_copies(table, points):
    """The part for these points, where one may stand several times."""
    return [[table[i][j] for j in points] for i in points]


class LineCuts(LineCase):
    def due(self, places):
        """One cut for each two places that follow one another, by going over the cuts."""
        ranked = sorted(set(places))
        found = []
        for cut in sides(len(places)):
            others = [places[k] for k in range(len(places)) if k not in cut]
            inner = [places[k] for k in cut]
            if max(inner) < min(others):
                found.append((cut, pair(min(others) - max(inner))))
            elif max(others) < min(inner):
                found.append((cut, pair(min(inner) - max(others))))
        self.assertEqual(len(found), len(ranked) - 1)
        return found

    def test_points_on_a_line(self):
        chance = chance_of(103)
        for n in range(1, 11):
            for turn in range(6):
                places = drawn_places(chance, n, turn % 4)
                table = on_line(places)
                told = self.asked(line_cuts, table)
                self.assertEqual(told, self.due(places))
                self.check_weighted(n, told)
                self.assertEqual(summed(n, told), table)

    def test_a_line_is_a_tree_by_these_cuts(self):
        chance = chance_of(104)
        for n in range(1, 9):
            table = on_line(drawn_places(chance, n, n % 4))
            self.assertEqual(("tree", line_cuts(table)), tree_told(table))
            self.assertIsNone(first_crossing(n, line_cuts(table)))
            self.assertEqual(table_of(n, line_cuts(table)), table)

    def test_by_hand(self):
        self.assertEqual(line_cuts([[(0, 1)]]), [])
        for n in range(1, 11):
            self.assertEqual(line_cuts(nought(n)), [])
        self.assertEqual(line_cuts(of_pairs(2, [FIFTY])), [([1], (FIFTY, 1))])
        self.assertEqual(line_cuts(line(4)), [([1, 2, 3], (1, 1)), ([2, 3], (1, 1)), ([3], (1, 1))])
        # Point 0 in the middle: the cut ahead of it and the one behind it.
        self.assertEqual(line_cuts(of_pairs(3, [1, 2, 3])), [([1], (1, 1)), ([2], (2, 1))])
        # Points at one place are never parted.
        self.assertEqual(line_cuts(of_pairs(4, [0, 5, 5, 5, 5, 0])), [([2, 3], (5, 1))])
        self.assertEqual(line_cuts(on_line([Fraction(1, 2), 0, Fraction(1, 3)])), [([1], (1, 3)), ([1, 2], (1, 6))])

    def test_others_are_refused(self):
        chance = chance_of(105)
        for n in range(3, 11):
            for i, j in itertools.islice(itertools.combinations(range(n), 2), 12):
                self.check_refused(NoTable, line_cuts, moved(line(n), i, j, Fraction(1, FIFTY)))
            self.check_refused(NoTable, line_cuts, built(n, lambda i, j: 1))
            self.check_refused(NoTable, line_cuts, drawn_long(chance, n))
            self.check_refused(NoTable, line_cuts, huge(n))
        self.check_refused(NoTable, line_cuts, of_pairs(4, [1, 2, 1, 1, 2, 1]))
        self.check_refused(NoTable, line_cuts, of_pairs(3, [1, 9, 1]))

    def test_just_where_a_line_is_told(self):
        chance = chance_of(106)
        for n in range(1, 7):
            for turn in range(20):
                for table in (drawn_table(chance, n, 1), summed(n, drawn_cuts(chance, n, 2, plain=True))):
                    if line_told(table)[0] == "line":
                        self.assertEqual(summed(n, line_cuts(table)), table)
                    else:
                        self.check_refused(NoTable, line_cuts, table)

    def test_parts_of_lines_are_lines(self):
        chance = chance_of(107)
        table = on_line(drawn_places(chance, 8, 1))
        for many in range(1, 9):
            part = part_of(table, chance.sample(range(8), many))
            self.assertEqual(self.check_told(part)[0], "line")

    def test_told_lists_are_the_askers_own(self):
        for table in (nought(1), nought(4), line(6), on_line([3, -1, 3, 0, Fraction(1, 2)])):
            self.check_free_of_what_was_told(line_cuts, table)


if __name__ == "__main__":
    unittest.main()
