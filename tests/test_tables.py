"""Points [6], [7], [8], and [2] as far as it reaches tables."""

import copy
import itertools
import unittest
from fractions import Fraction

from helping import FIFTY, AskCase, built, changed, huge, line, many_tables, mixed, nought, pair, wild

from farcuts.errors import NoNumber, NoPoint, NoTable
from farcuts.tables import added, first_short, hung_together, is_table, part_of, times_table

FAR_NUMBERS = (10 ** 29, -(10 ** 29), 123456789012345678901234567890)


class TellingTables(AskCase):
    def check_told(self, thing, due):
        kept = copy.deepcopy(thing)
        self.assertIs(is_table(thing), due, thing)
        self.assertEqual(thing, kept)

    def test_tables(self):
        for table in many_tables():
            self.check_told(table, True)

    def test_long_ones(self):
        for n in (11, 30, 120):
            self.check_told(line(n), True)
            self.check_told(changed(line(n), n - 1, n - 2, (2, 4)), False)
            self.check_told(changed(line(n), n - 1, n - 2, (7, 2), both=False), False)

    def test_points_nought_apart(self):
        self.check_told([[(0, 1), (0, 1)], [(0, 1), (0, 1)]], True)

    def test_one_row_standing_twice(self):
        row = [(0, 1), (0, 1)]
        self.check_told([row, row], True)

    def test_no_list_at_all(self):
        for thing in (
            None, True, False, 0, 1, 1.5, "", "table", (), {}, {0: [(0, 1)]}, set(), object(), len,
            ([(0, 1)],), tuple(line(3)), {i: row for i, row in enumerate(line(3))},
        ):
            self.assertIs(is_table(thing), False, thing)

    def test_no_row(self):
        self.check_told([], False)

    def test_rows_that_are_no_list(self):
        for n in (1, 2, 3, 5):
            for thing in (None, 0, "", "0" * n, {}, {0: (0, 1)}, tuple(line(n)[n - 1]), True):
                rows = line(n)
                rows[n - 1] = thing
                self.check_told(rows, False)

    def test_rows_too_long_too_short_or_lacking(self):
        self.check_told([[]], False)
        for n in (1, 2, 3, 10):
            for i in range(n):
                rows = line(n)
                rows[i].append((0, 1))
                self.check_told(rows, False)
                rows = line(n)
                rows[i].pop()
                self.check_told(rows, False)
                rows = line(n)
                rows[i] = []
                self.check_told(rows, False)
            self.check_told(line(n) + [[(0, 1)] * n], False)
            self.check_told(line(n)[:-1], False)
            self.check_told([row + [(0, 1)] for row in line(n)], False)

    def test_things_that_are_no_fraction(self):
        bad = (
            None, 0, 1, 1.5, "1", "1/2", "01", [], [1, 2], [0, 1], {}, (), (1,), (0,), (1, 2, 3), (0, 1, 1),
            (None, 1), (1, None), ("1", 1), (1, "1"), (1.0, 1), (1, 1.0), ((1, 1), 1), ([1], 1), (0.0, 1),
            True, False, (True, 1), (1, True), (False, 1), (0, True), (True, True),
            (2, 2), (2, 4), (0, 2), (6, 3), (FIFTY * 3, FIFTY), (1, 0), (0, 0), (1, -1), (0, -1), (-1, -1),
            (-1, 1), (-1, 2), (-FIFTY, 1), (3, -2),
        )
        for thing in bad:
            for n, i, j in ((1, 0, 0), (2, 0, 1), (2, 1, 1), (4, 2, 1), (4, 3, 3), (10, 9, 8), (10, 0, 9)):
                self.check_told(changed(line(n), i, j, thing), False)
                if i != j:
                    self.check_told(changed(line(n), i, j, thing, both=False), False)
                    self.check_told(changed(line(n), j, i, thing, both=False), False)

    def test_truths_beside_alike_numbers(self):
        self.check_told([[(0, 1), (1, 1)], [(True, 1), (0, 1)]], False)
        self.check_told([[(0, 1), (1, 1)], [(1, True), (0, 1)]], False)
        self.check_told([[(False, 1)]], False)

    def test_not_nought_to_itself(self):
        for n in (1, 2, 5, 10):
            for i in range(n):
                for thing in ((1, 1), (1, FIFTY)):
                    self.check_told(changed(line(n), i, i, thing), False)

    def test_unlike_there_and_back(self):
        for n in (2, 3, 6):
            for i, j in itertools.permutations(range(n), 2):
                self.check_told(changed(line(n), i, j, (n + 1, 1), both=False), False)
                self.check_told(changed(huge(n), i, j, (1, FIFTY), both=False), False)

    def test_a_list_within_itself(self):
        knot = []
        knot.append(knot)
        self.assertIs(is_table(knot), False)
        knot[0] = [knot]
        self.assertIs(is_table(knot), False)


class ShortWays(AskCase):
    def due(self, table):
        for i, j, k in itertools.permutations(range(len(table)), 3):
            if Fraction(*table[i][k]) > Fraction(*table[i][j]) + Fraction(*table[j][k]):
                return (i, j, k)
        return None

    def check_told(self, table):
        kept = copy.deepcopy(table)
        told = first_short(table)
        self.assertEqual(told, self.due(table))
        self.assertEqual(table, kept)
        if told is not None:
            self.assertIs(type(told), tuple)
            self.assertEqual([type(point) for point in told], [int, int, int])
        return told

    def test_many_tables(self):
        found = [self.check_told(table) for table in many_tables()]
        self.assertGreater(len([told for told in found if told is not None]), 10)
        self.assertGreater(len([told for told in found if told is None]), 30)

    def test_long_ones(self):
        for n in range(1, 11):
            for table in (line(n), mixed(n), nought(n)):
                self.assertIsNone(first_short(table))

    def test_one_and_two_points_are_always_long(self):
        self.assertIsNone(first_short([[(0, 1)]]))
        self.assertIsNone(first_short([[(0, 1), (FIFTY, 1)], [(FIFTY, 1), (0, 1)]]))

    def test_plain_ones(self):
        self.assertEqual(first_short(changed(line(3), 0, 2, (3, 1))), (0, 1, 2))
        self.assertEqual(first_short(changed(line(3), 0, 1, (4, 1))), (0, 2, 1))
        self.assertEqual(first_short(changed(line(3), 1, 2, (4, 1))), (1, 0, 2))
        self.assertEqual(first_short(changed(built(5, lambda i, j: 2), 2, 4, (5, 1))), (2, 0, 4))

    def test_one_far_pair_anywhere(self):
        for n in range(3, 11):
            for i, k in itertools.combinations(range(n), 2):
                self.check_told(changed(mixed(n), i, k, (100, 1)))

    def test_fails_by_very_little(self):
        for n in (3, 6, 10):
            little = pair(n - 1 + Fraction(1, FIFTY))
            self.assertEqual(first_short(changed(line(n), 0, n - 1, little)), (0, 1, n - 1))
            little = pair(2 + Fraction(1, FIFTY))
            self.assertEqual(first_short(changed(line(n), n - 3, n - 1, little)), (n - 3, n - 2, n - 1))

    def test_just_as_far_is_no_failing(self):
        third = Fraction(1, 3)
        self.assertIsNone(first_short(built(3, lambda i, j: third if j - i == 1 else 2 * third)))


class Parts(AskCase):
    def test_points_in_any_order(self):
        for n in (1, 2, 3, 4):
            for table in (line(n), mixed(n), wild(n), huge(n)):
                for many in range(1, n + 1):
                    for points in itertools.permutations(range(n), many):
                        asked = list(points)
                        told = part_of(table, asked)
                        self.assertEqual(told, [[table[a][b] for b in points] for a in points])
                        self.assertEqual(asked, list(points))
                        self.check_new(told, table)
                        self.assertIs(is_table(told), True)

    def test_some_of_ten(self):
        for points in ([9], [0, 9], [9, 0], [3, 1, 4, 5, 9, 2, 6], list(range(10)), list(range(9, -1, -1))):
            for table in (line(10), mixed(10), wild(10)):
                self.assertEqual(part_of(table, points), [[table[a][b] for b in points] for a in points])

    def test_order_of_rows_and_columns(self):
        table = [[(0, 1), (1, 1), (2, 1)], [(1, 1), (0, 1), (5, 1)], [(2, 1), (5, 1), (0, 1)]]
        self.assertEqual(
            part_of(table, [2, 0, 1]),
            [[(0, 1), (2, 1), (5, 1)], [(2, 1), (0, 1), (1, 1)], [(5, 1), (1, 1), (0, 1)]],
        )

    def test_other_lists_are_refused(self):
        for n in (1, 2, 5, 10):
            lists = [[], [0, 0], [n - 1, n - 1], [n], [-1], [-n], [n + 1], [0, n], [n, 0], [0, -1]]
            lists += [list(range(n)) + [0], list(range(n + 1)), [0] * 1000, list(range(1000))]
            for number in FAR_NUMBERS:
                lists += [[number], [0, number]]
            for points in lists:
                self.check_refused(NoPoint, part_of, line(n), points)

    def test_told_lists_are_the_askers_own(self):
        self.check_free_of_what_was_told(part_of, mixed(5), [4, 0, 2])
        self.check_free_of_what_was_told(part_of, mixed(4), [0, 1, 2, 3])
        self.check_free_of_what_was_told(part_of, line(1), [0])


class Sums(AskCase):
    def test_place_by_place(self):
        for n in range(1, 11):
            for table in (line(n), mixed(n), huge(n), nought(n)):
                for other in (wild(n), mixed(n, 9), huge(n)):
                    due = []
                    for i in range(n):
                        due.append([pair(Fraction(*table[i][j]) + Fraction(*other[i][j])) for j in range(n)])
                    told = added(table, other)
                    self.assertEqual(told, due)
                    self.assertEqual(added(other, table), due)
                    self.check_new(told, table, other)
                    self.assertIs(is_table(told), True)

    def test_a_table_and_itself(self):
        table = mixed(4)
        told = added(table, table)
        self.assertEqual(told, times_table((2, 1), table))
        self.check_new(told, table)

    def test_nought_added_is_a_new_table(self):
        table = mixed(4)
        told = added(table, nought(4))
        self.assertEqual(told, table)
        self.check_new(told, table)

    def test_other_many_points_are_refused(self):
        for n in range(1, 11):
            for m in range(1, 12):
                if n != m:
                    self.check_refused(NoTable, added, line(n), mixed(m))

    def test_told_lists_are_the_askers_own(self):
        for n in (1, 4):
            self.check_free_of_what_was_told(added, mixed(n), wild(n))


class Multiples(AskCase):
    def test_place_by_place(self):
        for n in range(1, 11):
            for table in (line(n), mixed(n), wild(n), huge(n), nought(n)):
                for q in ((1, 1), (2, 1), (1, 2), (7, 3), (FIFTY, 1), (1, FIFTY), (FIFTY - 1, FIFTY)):
                    due = []
                    for row in table:
                        due.append([pair(Fraction(*q) * Fraction(*r)) for r in row])
                    told = times_table(q, table)
                    self.assertEqual(told, due)
                    self.check_new(told, table)
                    self.assertIs(is_table(told), True)

    def test_times_nought(self):
        for n in range(1, 11):
            for table in (line(n), mixed(n), huge(n)):
                self.assertEqual(times_table((0, 1), table), nought(n))

    def test_below_nought_is_refused(self):
        for q in ((-1, 1), (-1, 2), (-1, FIFTY), (-FIFTY, 1)):
            for n in (1, 2, 10):
                self.check_refused(NoNumber, times_table, q, mixed(n))
                self.check_refused(NoNumber, times_table, q, nought(n))

    def test_told_lists_are_the_askers_own(self):
        for q in ((0, 1), (1, 1), (2, 3)):
            for n in (1, 4):
                self.check_free_of_what_was_told(times_table, q, mixed(n))


class Hanging(AskCase):
    def due(self, table, point, other, other_point):
        places = [(0, a) for a in range(len(table))]
        places += [(1, b) for b in range(len(other)) if b != other_point]
        rows = []
        for side, a in places:
            row = []
            for other_side, b in places:
                if side == other_side:
                    row.append((table, other)[side][a][b])
                else:
                    first, second = (a, b) if side == 0 else (b, a)
                    row.append(pair(Fraction(*table[first][point]) + Fraction(*other[other_point][second])))
            rows.append(row)
        return rows

    def test_at_each_point_of_both(self):
        for n in range(1, 6):
            for m in range(1, 6):
                for table, other in ((line(n), mixed(m)), (wild(n), wild(m, 3)), (huge(n), huge(m))):
                    for point, other_point in itertools.product(range(n), range(m)):
                        told = hung_together(table, point, other, other_point)
                        self.assertEqual(told, self.due(table, point, other, other_point))
                        self.assertEqual(len(told), n + m - 1)
                        self.assertIs(is_table(told), True)
                        self.check_new(told, table, other)

    def test_plain_one(self):
        table = [[(0, 1), (1, 1)], [(1, 1), (0, 1)]]
        other = [[(0, 1), (2, 1), (3, 1)], [(2, 1), (0, 1), (4, 1)], [(3, 1), (4, 1), (0, 1)]]
        self.assertEqual(
            hung_together(table, 0, other, 1),
            [
                [(0, 1), (1, 1), (2, 1), (4, 1)],
                [(1, 1), (0, 1), (3, 1), (5, 1)],
                [(2, 1), (3, 1), (0, 1), (3, 1)],
                [(4, 1), (5, 1), (3, 1), (0, 1)],
            ],
        )

    def test_with_one_point(self):
        one = [[(0, 1)]]
        self.assertEqual(hung_together(one, 0, one, 0), [[(0, 1)]])
        for n in (2, 5, 10):
            for point in range(n):
                told = hung_together(mixed(n), point, one, 0)
                self.assertEqual(told, mixed(n))
                behind = [point] + [b for b in range(n) if b != point]
                self.assertEqual(hung_together(one, 0, mixed(n), point), part_of(mixed(n), behind))

    def test_ten_and_ten_and_what_is_told_again(self):
        told = hung_together(mixed(10), 7, wild(10), 3)
        self.assertEqual(told, self.due(mixed(10), 7, wild(10), 3))
        self.assertEqual(hung_together(told, 18, told, 2), self.due(told, 18, told, 2))

    def test_a_table_and_itself(self):
        table = mixed(3)
        told = hung_together(table, 1, table, 1)
        self.assertEqual(told, self.due(table, 1, table, 1))
        self.check_new(told, table)

    def test_hung_lines_are_long(self):
        self.assertEqual(hung_together(line(4), 3, line(4), 0), line(7))
        self.assertIsNone(first_short(hung_together(mixed(5), 2, mixed(4, 4), 1)))

    def test_numbers_that_are_no_points_are_refused(self):
        for n in (1, 2, 5, 10):
            for number in (-1, -n, n, n + 1) + FAR_NUMBERS:
                for m in (1, 3, 12):
                    self.check_refused(NoPoint, hung_together, line(n), number, mixed(m), 0)
                    self.check_refused(NoPoint, hung_together, mixed(m), 0, line(n), number)
                self.check_refused(NoPoint, hung_together, line(n), number, line(n), number)

    def test_a_point_of_the_other_table_alone_is_refused(self):
        self.check_refused(NoPoint, hung_together, line(2), 3, line(5), 0)
        self.check_refused(NoPoint, hung_together, line(5), 0, line(2), 3)

    def test_told_lists_are_the_askers_own(self):
        for n, m in ((1, 1), (1, 3), (3, 1), (4, 3)):
            self.check_free_of_what_was_told(hung_together, mixed(n), n - 1, wild(m), 0)


if __name__ == "__main__":
    unittest.main()
