"""Point [30], and [2], [3] as far as they reach texts."""

import itertools
import unittest
from fractions import Fraction

from helping import FORTY, AskCase, built, chance_of, drawn_cuts, drawn_long, drawn_table, line, many_tables, mixed
from helping import nought, of_pairs, sides, wild

from farcuts.cuts import is_weighted, table_of
from farcuts.errors import NoText
from farcuts.tables import is_table
from farcuts.texts import read_cuts, read_table, show_cuts, show_table
from farcuts.trees import tree_told

NO_TEXTS = (None, 0, 1, True, [], ["0"], (), ("0",), {}, {"0": "0"}, [[(0, 1)]], [([1], (1, 1))], 1.5, b"0", b"none", set())
# Words that write no fraction.
NO_FRACTIONS = (
    "", " ", "00", "01", "-1", "-0", "+1", "1/", "/1", "/", "1//2", "1/2/3", "2/4", "4/2", "3/1", "0/1", "0/2", "1/0",
    "0/0", "1/01", "01/2", "-1/2", "1/-2", "+1/2", "1 /2", "1/ 2", "1.0", "1e3", "1_000", "0x1", "x", "none", "1,", "1;",
    "1:", "\t1", "1\t", "1\r", "\u0661", "\u00b2", "\uff11", "1/\u0662", "\u2212" + "1", "1" * 41, "1/" + "3" * 41,
    "1" * 41 + "/2", "0" * 40, "(1, 2)", "True",
)


def written(q):
    return str(q[0]) if q[1] == 1 else "%d/%d" % q


def written_table(table):
    return "\n".join(" ".join(written(q) for q in row) for row in table)


def written_cuts(cuts):
    return "; ".join("%s: %s" % (" ".join(map(str, cut)), written(weight)) for cut, weight in cuts) or "none"


def small_changes(text, signs):
    """Each sign of the text left out, doubled, or another one in its place."""
    for place in range(len(text)):
        yield text[:place] + text[place + 1:]
        yield text[:place] + text[place] + text[place:]
        for sign in signs:
            yield text[:place] + sign + text[place + 1:]
            yield text[:place] + sign + text[place:]
    for sign in signs:
        yield text + sign


class TableTexts(AskCase):
    def check_back(self, table):
        text = self.asked(show_table, table)
        self.assertEqual(text, written_table(table))
        self.assertEqual(self.asked(read_table, text), table)

    def test_written_and_read_back(self):
        chance = chance_of(150)
        for n in range(1, 11):
            for table in (line(n), mixed(n), wild(n), nought(n), drawn_table(chance, n), drawn_long(chance, n)):
                self.check_back(table)
            self.check_back(built(n, lambda i, j: FORTY - i * j))
            self.check_back(built(n, lambda i, j: Fraction(FORTY - i, FORTY - 11 - 10 * j)))
            self.check_back(built(n, lambda i, j: Fraction(1, FORTY)))

    def test_by_hand(self):
        self.assertEqual(show_table([[(0, 1)]]), "0")
        self.assertEqual(read_table("0"), [[(0, 1)]])
        table = of_pairs(3, [Fraction(1, 2), 3, Fraction(10, 7)])
        self.assertEqual(show_table(table), "0 1/2 3\n1/2 0 10/7\n3 10/7 0")
        self.assertEqual(read_table("0 1/2 3\n1/2 0 10/7\n3 10/7 0"), table)
        self.assertEqual(read_table("0 0\n0 0"), nought(2))

    def test_forty_figures_and_more(self):
        self.assertEqual(read_table("0 %d\n%d 0" % (FORTY, FORTY)), of_pairs(2, [FORTY]))
        least = 10 ** 40
        self.check_refused(NoText, read_table, "0 %d\n%d 0" % (least, least))
        self.check_refused(NoText, read_table, "0 1/%d\n1/%d 0" % (least, least))
        # Greater ones are written all the same.
        self.assertEqual(show_table(of_pairs(2, [Fraction(least, 3)])), "0 %d/3\n%d/3 0" % (least, least))
        self.assertEqual(show_table(of_pairs(2, [10 ** 1999])), "0 1%s\n1%s 0" % ("0" * 1999, "0" * 1999))

    def test_words_that_write_no_fraction(self):
        for word in NO_FRACTIONS:
            self.check_refused(NoText, read_table, word)
            self.check_refused(NoText, read_table, "0 %s\n%s 0" % (word, word))
            self.check_refused(NoText, read_table, "0 1 %s\n1 0 2\n%s 2 0" % (word, word))
            self.check_refused(NoText, read_table, "%s 1\n1 0" % word)

    def test_rows_that_make_no_table(self):
        for text in (
            "", "1", "1/2", "0 0", "0\n0", "0 1\n1", "0 1\n2 0", "0 1\n1 1", "1 1\n1 0", "0 1 2\n1 0 2", "0 1\n1 0\n1 1",
            "0 1\n1 0 0", "0 1 1\n1 0\n1 0 0", "0 1/2\n1/3 0", "0 1 2\n1 0 3\n2 4 0",
        ):
            self.check_refused(NoText, read_table, text)

    def test_blanks_and_line_ends(self):
        for text in (
            " 0", "0 ", "0\n", "\n0", "0\n\n", "0  1\n1 0", "0 1 \n1 0", "0 1\n 1 0", "0 1\n\n1 0", "0 1\n1 0\n",
            "\n0 1\n1 0", "0 1\r\n1 0", "0 1\r1 0", "0\t1\n1\t0", "0 1 1 0", "0 1; 1 0", "0 1\n1 0 ", "0 1\x0b1 0",
            "0 1\x0c1 0", "0 1\x851 0", "0 1\u20281 0", "0\u00a01\n1\u00a00",
        ):
            self.check_refused(NoText, read_table, text)

    def test_more_than_ten_points(self):
        for n in (11, 12, 30):
            for table in (line(n), nought(n)):
                self.check_refused(NoText, read_table, written_table(table))
        self.assertEqual(read_table(written_table(line(10))), line(10))

    def test_small_changes(self):
        """What is read writes just what was read, so each table has one text alone."""
        found = []
        for table in (nought(1), of_pairs(2, [12]), of_pairs(2, [Fraction(3, 20)]), of_pairs(3, [1, Fraction(7, 2), 10])):
            for text in small_changes(written_table(table), "01 /\n-;:"):
                try:
                    told = read_table(text)
                except NoText:
                    found.append(False)
                else:
                    found.append(True)
                    self.assertIs(is_table(told), True)
                    self.assertEqual(written_table(told), text)
        self.assertGreater(found.count(False), 500)

    def test_of_anything(self):
        for thing in NO_TEXTS:
            self.check_refused(NoText, read_table, thing)
        for text in (
            "none", "table", "1: 1", "0\x00", "\x00", "~", "\t", "\n", " ", "\n\n\n", "a b\nb a", "{}", "%s", "0 " * 900,
        ):
            self.check_refused(NoText, read_table, text)

    def test_told_lists_are_the_askers_own(self):
        for table in (nought(1), line(4), mixed(5)):
            self.check_free_of_what_was_told(show_table, table)
            self.check_free_of_what_was_told(read_table, written_table(table))

    def test_many_tables_are_written(self):
        for table in many_tables():
            self.assertEqual(show_table(table), written_table(table))


class CutTexts(AskCase):
    def check_back(self, n, cuts):
        text = self.asked(show_cuts, cuts)
        self.assertEqual(text, written_cuts(cuts))
        self.assertEqual(self.asked(read_cuts, n, text), cuts)

    def test_written_and_read_back(self):
        chance = chance_of(151)
        for n in range(1, 11):
            for many in (0, 1, 2, 5, 11, 511):
                self.check_back(n, drawn_cuts(chance, n, many))
                self.check_back(n, drawn_cuts(chance, n, many, plain=True))
            self.check_back(n, [(cut, (FORTY, FORTY - 1)) for cut in sides(n)[:20]])

    def test_by_hand(self):
        self.assertEqual(show_cuts([]), "none")
        self.assertEqual(show_cuts([([1], (1, 1))]), "1: 1")
        cuts = [([1], (1, 2)), ([1, 2], (3, 1)), ([2], (10, 7))]
        self.assertEqual(show_cuts(cuts), "1: 1/2; 1 2: 3; 2: 10/7")
        self.assertEqual(read_cuts(3, "1: 1/2; 1 2: 3; 2: 10/7"), cuts)
        for n in range(1, 11):
            self.assertEqual(read_cuts(n, "none"), [])

    def test_forty_figures_and_more(self):
        least = 10 ** 40
        self.assertEqual(read_cuts(2, "1: %d" % FORTY), [([1], (FORTY, 1))])
        for text in ("1: %d" % least, "1: 1/%d" % least, "1: %d/3" % least, "%d: 1" % least, "%d: 1" % FORTY):
            self.check_refused(NoText, read_cuts, 2, text)
        self.assertEqual(show_cuts([([1], (least, 3))]), "1: %d/3" % least)

    def test_weights_that_write_no_fraction(self):
        for word in NO_FRACTIONS + ("0",):
            for text in ("1: %s", "1: 1; 1 2: %s", "1: %s; 1 2: 1"):
                self.check_refused(NoText, read_cuts, 3, text % word)

    def test_points_that_are_none(self):
        for word in NO_FRACTIONS + ("0", "3", "4", "10", "1/2"):
            for text in ("%s: 1", "1 %s: 1", "%s 2: 1", "1: 1; %s: 1"):
                self.check_refused(NoText, read_cuts, 3, text % word)

    def test_not_for_so_many_points(self):
        for n in range(1, 11):
            self.check_refused(NoText, read_cuts, n, "%d: 1" % n)
            self.check_refused(NoText, read_cuts, n, "1 %d: 1" % n)
            if n > 1:
                self.assertEqual(read_cuts(n, "%d: 1" % (n - 1)), [([n - 1], (1, 1))])
        self.check_refused(NoText, read_cuts, 1, "1: 1")
        self.check_refused(NoText, read_cuts, 1, "0: 1")

    def test_a_cut_twice_or_out_of_order(self):
        for text in (
            "1: 1; 1: 1", "1: 1; 1: 2", "2: 1; 1: 1", "1: 1; 2: 1; 1 2: 1", "1 2: 1; 1: 1", "2 1: 1", "1 1: 1", "1 2 2: 1",
            "1 2: 1; 2 1: 1", "3: 1; 2: 1; 1: 1", "1: 1; 2: 1; 2: 1", "0 1: 1", "1 3 2: 1",
        ):
            self.check_refused(NoText, read_cuts, 4, text)

    def test_blanks_and_signs(self):
        for text in (
            "", " ", "1", "1:", "1: ", ": 1", "1:1", "1 : 1", "1:  1", " 1: 1", "1: 1 ", "1: 1;", "1: 1; ", ";", "; 1: 1",
            "1: 1;2: 1", "1: 1;  2: 1", "1: 1 ; 2: 1", "1: 1, 2: 1", "1: 1\n2: 1", "1: 1\n", "\n1: 1", "1\t2: 1", "1,2: 1",
            "1  2: 1", "1: 1: 1", "1: 2: 1", "1; 2", "None", "NONE", "none ", " none", "none; 1: 1", "1: 1; none", "none;",
            "none\n", "nonenone", "[]", "1: 1; ; 2: 1", "1 2", "1: 1 2: 1", "1:\n1", "1:\t1", "1; 1", "1 2 3:", "1: 1 1",
        ):
            self.check_refused(NoText, read_cuts, 4, text)

    def test_more_than_ten_points(self):
        for n in (11, 12, 100):
            for text in ("none", "1: 1", "10: 1", "1 2: 1/2; 2: 3"):
                self.check_refused(NoText, read_cuts, n, text)

    def test_small_changes(self):
        found = []
        for cuts in ([], [([1], (12, 1))], [([1], (3, 20)), ([1, 2], (1, 1)), ([3], (10, 1))]):
            for text in small_changes(written_cuts(cuts), "0123 /\n-;:"):
                try:
                    told = read_cuts(4, text)
                except NoText:
                    found.append(False)
                else:
                    found.append(True)
                    self.assertIs(is_weighted(4, told), True)
                    self.assertEqual(written_cuts(told), text)
        self.assertGreater(found.count(True), 20)
        self.assertGreater(found.count(False), 300)

    def test_all_short_texts(self):
        for length in range(5):
            for signs in itertools.product("12: ;/", repeat=length):
                text = "".join(signs)
                due = {"1: 1": [([1], (1, 1))], "2: 1": [([2], (1, 1))], "1: 2": [([1], (2, 1))], "2: 2": [([2], (2, 1))]}
                if text in due:
                    self.assertEqual(read_cuts(3, text), due[text])
                else:
                    self.check_refused(NoText, read_cuts, 3, text)

    def test_of_anything(self):
        for thing in NO_TEXTS:
            for n in (1, 3, 10, 11):
                self.check_refused(NoText, read_cuts, n, thing)

    def test_what_is_told_is_written(self):
        chance = chance_of(152)
        for n in range(1, 8):
            cuts = drawn_cuts(chance, n, 1)
            told = tree_told(table_of(n, cuts))
            self.assertEqual(read_cuts(n, show_cuts(told[1])), cuts)

    def test_told_lists_are_the_askers_own(self):
        for cuts in ([], [([1], (1, 2))], [(cut, (2, 3)) for cut in sides(4)]):
            self.check_free_of_what_was_told(show_cuts, cuts)
            self.check_free_of_what_was_told(read_cuts, 4, written_cuts(cuts))


if __name__ == "__main__":
    unittest.main()
