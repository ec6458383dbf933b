"""Points [31], [32], and [2], [3] as far as they reach the desk."""

import itertools
import unittest
from fractions import Fraction

from helping import FORTY, AskCase, chance_of, drawn_cuts, drawn_long, drawn_table, drawn_tree, line, mixed, moved
from helping import nought, of_pairs, summed, wild

from farcuts.cuts import table_of
from farcuts.desk import Desk
from farcuts.errors import CutError, NoName, NoNumber, NoPoint, NoRow, NoTable, NoText, TooMany
from farcuts.fractions import show_fraction
from farcuts.lines import line_told
from farcuts.near import nearest_sum
from farcuts.splits import rest_table, splits_of
from farcuts.sums import sum_told
from farcuts.tables import first_short
from farcuts.texts import show_cuts
from farcuts.trees import tree_told

ASKED_OF_ONE = ("tree", "sum", "line", "splits", "rest", "near")
TWO_AND_THREE = "5 2 2 1 1 2 1 1 1 1 2"
NO_TEXTS = (None, 0, True, [], ["names"], ("names",), {}, b"names", 1.5, [[(0, 1)]])
NO_NUMBERS = (
    "", "00", "01", "-1", "+1", "-0", "1.0", "1/2", "x", "one", "1_0", "\u0661", "\u00b2", "1\n", "\t1", "1" * 41, "0x1",
)
NO_FRACTIONS = NO_NUMBERS[:7] + ("x", "2/4", "3/1", "1/0", "0/1", "-1/2", "1/", "/2", "1/2/3", "1" * 41, "1/" + "3" * 41, "1\n")
NO_NAMES = (
    "", "A", "Ab", "aB", "a1", "1", "a_b", "a-b", "abcdefghi", "a" * 1000, "\u00e4", "\u00df", "a\n", "\ta", "a.", "a:",
    "\u0430",
)


def table_row(name, table):
    distances = [table[i][j] for i, j in itertools.combinations(range(len(table)), 2)]
    return " ".join(["table", name, str(len(table))] + [show_fraction(q) for q in distances])


def kept(table):
    """A desk that keeps the table by the name a."""
    desk = Desk()
    desk.say(table_row("a", table))
    return desk


class DeskCase(AskCase):
    def check_said(self, desk, row, due):
        told = desk.say(row)
        self.assertIs(type(told), str)
        self.assertEqual(told, due)

    def state(self, desk):
        """All that the desk tells: its names and each distance it keeps."""
        names = desk.say("names").split(" ")
        if names == ["none"] and not self.is_kept(desk, "none"):
            return {}
        return {name: self.distances(desk, name) for name in names}

    def is_kept(self, desk, name):
        try:
            desk.say("far %s 0 0" % name)
        except NoName:
            return False
        return True

    def distances(self, desk, name):
        found = []
        for i in itertools.count():
            try:
                found.append([desk.say("far %s %d %d" % (name, i, j)) for j in range(i + 1)])
            except NoPoint:
                return found

    def check_no(self, error, desk, row):
        """Refused with just this class, also when asked again, and the desk keeps what it kept."""
        before = self.state(desk)
        self.check_refused(error, desk.say, row)
        self.check_refused(error, desk.say, row)
        self.assertEqual(self.state(desk), before)


class Answers(DeskCase):
    def test_table(self):
        desk = Desk()
        self.check_said(desk, "table a 1", "ok")
        self.check_said(desk, "table b 2 1/2", "ok")
        self.check_said(desk, "table c 3 0 5 10/7", "ok")
        self.assertEqual(desk.say("far b 0 1"), "1/2")
        self.assertEqual([desk.say("far c 0 1"), desk.say("far c 0 2"), desk.say("far c 1 2")], ["0", "5", "10/7"])
        self.assertEqual([desk.say("far c 1 0"), desk.say("far c 2 0"), desk.say("far c 2 1")], ["0", "5", "10/7"])
        self.assertEqual([desk.say("far c %d %d" % (k, k)) for k in range(3)], ["0"] * 3)
        self.assertEqual(desk.say("far a 0 0"), "0")

    def test_tables_of_one_to_ten_points(self):
        chance = chance_of(160)
        for n in range(1, 11):
            for table in (line(n), mixed(n), wild(n), drawn_table(chance, n)):
                desk = Desk()
                self.check_said(desk, table_row("points", table), "ok")
                for i, j in itertools.product(range(n), repeat=2):
                    self.check_said(desk, "far points %d %d" % (i, j), show_fraction(table[i][j]))

    def test_cuts(self):
        chance = chance_of(161)
        for n in range(1, 11):
            for many in (0, 1, 4, 9):
                cuts = drawn_cuts(chance, n, many)
                desk = Desk()
                self.check_said(desk, "cuts a %d %s" % (n, show_cuts(cuts)), "ok")
                table = table_of(n, cuts)
                for i, j in itertools.product(range(n), repeat=2):
                    self.check_said(desk, "far a %d %d" % (i, j), show_fraction(table[i][j]))
        self.check_said(desk, "cuts b 3 none", "ok")
        self.assertEqual(desk.say("far b 0 2"), "0")

    def test_tree(self):
        self.check_said(kept(line(4)), "tree a", "1 2 3: 1; 2 3: 1; 3: 1")
        self.check_said(kept(nought(3)), "tree a", "none")
        self.check_said(kept(nought(1)), "tree a", "none")
        self.check_said(kept(of_pairs(2, [Fraction(3, 7)])), "tree a", "1: 3/7")
        self.check_said(kept(of_pairs(3, [1, 9, 1])), "tree a", "bars 0 1 2")
        self.check_said(kept(of_pairs(3, [9, 1, 1])), "tree a", "bars 0 2 1")
        self.check_said(kept(of_pairs(4, [1, 2, 1, 1, 2, 1])), "tree a", "bars 0 1 2 3")

    def test_sum(self):
        self.check_said(kept(line(4)), "sum a", "yes")
        self.check_said(kept(nought(1)), "sum a", "yes")
        self.check_said(kept(of_pairs(3, [1, 9, 1])), "sum a", "no")
        self.check_said(kept(nought(7)), "sum a", "yes")
        desk = Desk()
        desk.say("table a " + TWO_AND_THREE)
        self.check_said(desk, "sum a", "no")

    def test_line(self):
        self.check_said(kept(line(4)), "line a", "0 1 2 3")
        self.check_said(kept(nought(1)), "line a", "0")
        self.check_said(kept(nought(3)), "line a", "0 0 0")
        self.check_said(kept(of_pairs(3, [1, Fraction(1, 2), Fraction(3, 2)])), "line a", "0 1 -1/2")
        self.check_said(kept(of_pairs(3, [0, 2, 2])), "line a", "0 0 2")
        self.check_said(kept(of_pairs(3, [2, 3, 5])), "line a", "0 2 -3")
        self.check_said(kept(of_pairs(3, [1, 1, 1])), "line a", "bars 0 1 2")
        self.check_said(kept(of_pairs(4, [1, 2, 1, 1, 2, 1])), "line a", "bars 0 1 2 3")

    def test_splits_and_rest(self):
        self.check_said(kept(line(3)), "splits a", "1 2: 1; 2: 1")
        self.check_said(kept(line(3)), "rest a", "none")
        self.check_said(kept(nought(2)), "splits a", "none")
        self.check_said(kept(nought(1)), "rest a", "none")
        desk = Desk()
        desk.say("table a " + TWO_AND_THREE)
        self.check_said(desk, "splits a", "none")
        self.check_said(desk, "rest a", "2")
        desk.say("table a 5 5/2 5/2 3/2 3/2 5/2 3/2 3/2 3/2 3/2 5/2")
        self.check_said(desk, "splits a", "1: 1/4; 1 2 3 4: 1/4; 2: 1/4; 3: 1/4; 4: 1/4")
        self.check_said(desk, "rest a", "2")
        desk.say("table a 5 4/7 4/7 2/7 2/7 4/7 2/7 2/7 2/7 2/7 4/7")
        self.check_said(desk, "rest a", "4/7")
        desk.say("table a 5 1/7 1/7 1/14 1/14 1/7 1/14 1/14 1/14 1/14 1/7")
        self.check_said(desk, "rest a", "1/7")

    def test_near(self):
        self.check_said(kept(line(4)), "near a", "0")
        self.check_said(kept(nought(1)), "near a", "0")
        self.check_said(kept(of_pairs(3, [1, 9, 1])), "near a", "7/3")
        desk = Desk()
        desk.say("table a " + TWO_AND_THREE)
        self.check_said(desk, "near a", "1/5")

    def test_as_the_points_tell(self):
        chance = chance_of(162)
        for n in range(1, 11):
            tables = [drawn_table(chance, n, 2), drawn_long(chance, n), line(n), wild(n), nought(n)]
            tables += [summed(n, drawn_tree(chance, n, plain=True)), summed(n, drawn_cuts(chance, n, 3, plain=True))]
            for table in tables:
                self.check_all_answers(n, table, kept(table))

    def check_all_answers(self, n, table, desk):
        tree = tree_told(table)
        bars = "bars " + " ".join(str(point) for point in tree[1]) if tree[0] == "bars" else show_cuts(tree[1])
        self.check_said(desk, "tree a", bars)
        told = line_told(table)
        words = [show_fraction(place) for place in told[1]] if told[0] == "line" else ["bars"] + [str(k) for k in told[1]]
        self.check_said(desk, "line a", " ".join(words))
        if n <= 7:
            self.check_said(desk, "sum a", "yes" if sum_told(table)[0] == "cuts" else "no")
        if n <= 5:
            self.check_said(desk, "near a", show_fraction(nearest_sum(table)[0]))
        if first_short(table) is None:
            self.check_said(desk, "splits a", show_cuts(splits_of(table)))
            greatest = max(Fraction(*q) for row in rest_table(table) for q in row)
            self.check_said(desk, "rest a", str(greatest) if greatest else "none")

    def test_names(self):
        desk = Desk()
        self.check_said(desk, "names", "none")
        for name in ("b", "abc", "z", "ab", "abcdefgh", "a", "names", "table", "none"):
            self.check_said(desk, "table %s 1" % name, "ok")
        self.check_said(desk, "names", "a ab abc abcdefgh b names none table z")
        for name in ("table", "a", "z"):
            self.check_said(desk, "drop %s" % name, "ok")
        self.check_said(desk, "names", "ab abc abcdefgh b names none")

    def test_forty_figures(self):
        desk = Desk()
        self.check_said(desk, "table a 2 %d/%d" % (FORTY, FORTY - 1), "ok")
        self.check_said(desk, "far a 0 1", "%d/%d" % (FORTY, FORTY - 1))
        self.check_said(desk, "tree a", "1: %d/%d" % (FORTY, FORTY - 1))
        self.check_said(desk, "cuts a 3 1: %d; 1 2: %d; 2: %d" % (FORTY, FORTY, FORTY), "ok")
        self.check_said(desk, "far a 1 2", str(2 * FORTY))
        self.check_said(desk, "splits a", "1: %d; 1 2: %d; 2: %d" % (FORTY, FORTY, FORTY))


class Keeping(DeskCase):
    def test_a_name_kept_changed_dropped_and_asked_again(self):
        desk = Desk()
        self.check_no(NoName, desk, "tree a")
        desk.say("table a 2 1")
        self.check_said(desk, "far a 0 1", "1")
        desk.say("table a 3 1 2 3")
        self.check_said(desk, "far a 1 2", "3")
        self.check_said(desk, "names", "a")
        desk.say("cuts a 2 1: 7")
        self.check_said(desk, "far a 0 1", "7")
        self.check_no(NoPoint, desk, "far a 0 2")
        self.check_said(desk, "drop a", "ok")
        self.check_said(desk, "names", "none")
        self.check_no(NoName, desk, "drop a")
        self.check_no(NoName, desk, "far a 0 1")
        self.check_said(desk, "table a 2 5", "ok")
        self.check_said(desk, "far a 0 1", "5")

    def test_names_are_kept_apart(self):
        desk = Desk()
        desk.say("table a 2 1")
        desk.say("table b 2 2")
        desk.say("table ab 2 3")
        desk.say("drop a")
        self.check_said(desk, "far b 0 1", "2")
        self.check_said(desk, "far ab 0 1", "3")
        self.check_no(NoName, desk, "far a 0 1")

    def test_two_desks_apart(self):
        one, other = Desk(), Desk()
        one.say("table a 2 1")
        self.check_said(other, "names", "none")
        self.check_no(NoName, other, "tree a")
        other.say("table a 2 2")
        other.say("table b 2 3")
        self.check_said(one, "far a 0 1", "1")
        self.check_said(one, "names", "a")
        one.say("drop a")
        self.check_said(other, "far a 0 1", "2")
        self.check_said(Desk(), "names", "none")

    def test_asked_again_the_same(self):
        desk = Desk()
        desk.say("table a " + TWO_AND_THREE)
        desk.say("table b 4 1 2 1 1 2 1")
        rows = ["%s %s" % (kind, name) for kind in ASKED_OF_ONE for name in "ab"] + ["names", "far a 0 1"]
        first = [desk.say(row) for row in rows]
        self.assertEqual([desk.say(row) for row in rows], first)
        self.assertEqual([desk.say(row) for row in rows[::-1]], first[::-1])


class Refusals(DeskCase):
    def full_desk(self):
        desk = Desk()
        desk.say("table a 3 1 9 1")
        desk.say("table b 2 1/2")
        desk.say(table_row("ten", line(10)))
        return desk

    def check_all(self, error, rows):
        desk = self.full_desk()
        before = self.state(desk)
        for row in rows:
            self.check_refused(error, desk.say, row)
        self.assertEqual(self.state(desk), before)

    def test_of_anything(self):
        self.check_all(NoRow, NO_TEXTS)
        self.check_all(NoRow, (
            "", " ", "  ", "\n", "\t", "~", "a", "ok", "none", "Names", "names ", " names", "names a", "names\n", "tables a",
            "table", "cuts", "drop", "tree", "sum", "line", "splits", "rest", "near", "far", "bars", "keep a", "a tree",
            "tree\ta", "tree\na", "TREE a", "far a", "far a 0", "far a 0 1 2", "table a", "table ", "cuts a", "cuts a 3",
            "rests a", "split a", "nearest a", "lines a", "index a", "ring a", "\x00", "names\x00",
        ))

    def test_words_too_many_or_blanks(self):
        for kind in ASKED_OF_ONE + ("drop",):
            self.check_all(NoRow, (
                kind + " ", kind + " a ", kind + "  a", " " + kind + " a", kind + " a b", kind + " a 0", kind + " a\n",
                kind + " a\t", kind.upper() + " a", kind + "a", kind + " a a",
            ))
        self.check_all(NoRow, ("far  a 0 1", "far a  0 1", "far a 0  1", "far a 0 1 ", " far a 0 1", "far a 0 1\n"))
        self.check_all(NoRow, (
            "table  b 2 1", "table b  2 1", "table b 2  1", "table b 2 1 ", " table b 2 1", "table b 2 ", "table b 1 ",
            "table b 2\n1", "table b 2\t1", "table b ",
        ))
        self.check_all(NoRow, ("cuts  b 2 1: 1", "cuts b  2 1: 1", " cuts b 2 1: 1", "cuts b 2", "cuts b ", "cuts b 2\n1: 1"))

    def test_no_name(self):
        for name in NO_NAMES:
            rows = ["%s %s" % (kind, name) for kind in ASKED_OF_ONE + ("drop",)]
            self.check_all(NoRow, rows + ["table %s 1" % name, "cuts %s 1 none" % name, "far %s 0 0" % name])

    def test_numbers(self):
        for word in NO_NUMBERS + ("0", "11", "12", "100", str(FORTY)):
            self.check_all(NoRow, ("table b %s" % word, "table b %s 1" % word, "cuts b %s none" % word))
        for word in NO_NUMBERS:
            self.check_all(NoRow, ("far a %s 0" % word, "far a 0 %s" % word))

    def test_distances_that_write_no_fraction(self):
        for word in NO_FRACTIONS:
            self.check_all(NoRow, ("table b 2 " + word, "table b 3 1 2 " + word, "table b 3 %s 1 2" % word))

    def test_names_that_stand_for_nothing(self):
        for name in ("c", "aa", "abcdefgh", "names", "none"):
            rows = ["%s %s" % (kind, name) for kind in ASKED_OF_ONE + ("drop",)]
            self.check_all(NoName, rows + ["far %s 0 0" % name, "far %s 0 1" % name, "far %s 99 %d" % (name, FORTY)])

    def test_distances_not_as_many_as_pairs(self):
        for n in range(1, 11):
            pairs = n * (n - 1) // 2
            for many in (0, 1, pairs - 1, pairs + 1, pairs + 7, 2 * pairs, n * n, 900):
                if many >= 0 and many != pairs:
                    self.check_all(NoNumber, ("table %s %d%s" % (name, n, " 1" * many) for name in ("b", "new")))

    def test_cuts_that_write_none(self):
        for cuts in (
            "", " ", "none ", " none", "None", "1: 1;", "1:1", "2: 1; 1: 1", "1: 1; 1: 1", "2 1: 1", "3: 1", "1 3: 1", "0: 1",
            "1: 0", "1: -1", "1: 2/4", "1: 01", "1  2: 1", " 1: 1", "1: 1 ", "1: 1\n", "1", "x", "\n", "1: " + "1" * 41, "1: 3/1",
        ):
            self.check_all(NoText, ("cuts b 3 " + cuts, "cuts new 3 " + cuts))
        self.check_all(NoText, ("cuts b 1 1: 1", "cuts b 10 10: 1", "cuts b 2 1 2: 1"))

    def test_points_that_are_none(self):
        self.check_all(NoPoint, (
            "far b 0 2", "far b 2 0", "far b 2 2", "far a 3 3", "far ten 10 0", "far ten 0 10", "far b 0 %d" % FORTY,
            "far b %d %d" % (FORTY, FORTY),
        ))

    def test_too_many(self):
        for n in range(1, 11):
            for table in (line(n), wild(n)):
                desk = kept(table)
                if n > 7:
                    self.check_no(TooMany, desk, "sum a")
                else:
                    self.assertIn(desk.say("sum a"), ("yes", "no"))
                if n > 5:
                    self.check_no(TooMany, desk, "near a")
                else:
                    self.assertIsInstance(desk.say("near a"), str)

    def test_what_the_points_refuse(self):
        self.check_all(NoTable, ("splits a", "rest a"))
        for n in range(3, 11):
            desk = kept(moved(line(n), 0, n - 1, Fraction(1, FORTY // 100)))
            self.check_no(NoTable, desk, "splits a")
            self.check_no(NoTable, desk, "rest a")

    def test_the_order_of_refusals(self):
        # No row ahead of all.
        self.check_all(NoRow, (
            "far c 0 x", "far c 0 -1", "far a 9 -1", "tree c ", "drop c c", "table b 3 1 2/4", "table b 3 x", "table B 3 1",
            "table b 0 1", "table b 11", "cuts b 0 x", "cuts b 11 x", "cuts B 3 x", "cuts b 3/1 none", "table b 3 1 1 1 -1",
            "sum ten ten", "near  ten", "splits a a", "near c " + "1" * 41,
        ))
        # Then the name, ahead of points.
        self.check_all(NoName, ("far c 99 99", "far c 0 %d" % FORTY))
        # `table` and `cuts` need no name that stands for something.
        desk = Desk()
        self.check_no(NoNumber, desk, "table c 3 1")
        self.check_no(NoText, desk, "cuts c 3 x")
        self.check_said(desk, "names", "none")

    def test_each_is_a_cut_error(self):
        for row in ("x", "tree c", "table c 3", "cuts c 3 ", "far b 5 5", "sum ten", "near ten", "rest a"):
            with self.assertRaises(CutError):
                self.full_desk().say(row)


if __name__ == "__main__":
    unittest.main()
