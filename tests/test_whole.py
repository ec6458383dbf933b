"""Point [4] and what holds over the whole program: the interface, and what one module tells of another's answers."""

import copy
import importlib
import inspect
import itertools
import unittest
from fractions import Fraction

from helping import AskCase, bar_products, chance_of, cross, drawn_cuts, drawn_long, drawn_ring, drawn_table, drawn_tree
from helping import line, mixed, nought, of_pairs, pair, parts, ring_cuts, sides, summed, wild

from farcuts.alone import one_way, stand_alone
from farcuts.cuts import all_cuts, first_crossing, is_weighted, table_of
from farcuts.desk import Desk
from farcuts.fractions import minus
from farcuts.lines import line_cuts, line_told
from farcuts.near import fault_of, nearest_sum, row_shows
from farcuts.papers import shows
from farcuts.rings import first_ring, ring_told, ring_weight
from farcuts.splits import first_at_odds, rest_table, splits_of
from farcuts.sums import possible_cuts, sum_told, sum_with
from farcuts.tables import added, first_short, is_table, part_of
from farcuts.texts import read_cuts, read_table, show_cuts, show_table
from farcuts.trees import tree_told, tree_weight
from farcuts.webs import halved_told, web_of_words, web_table

INTERFACE = {
    "fractions": "fraction(top, bottom) plus(q, r) minus(q, r) times(q, r) divided(q, r) is_below(q, r) show_fraction(q)",
    "tables": "is_table(thing) first_short(table) part_of(table, points) added(table, other) times_table(q, table)"
              " hung_together(table, point, other, other_point)",
    "cuts": "cut_of(n, points) all_cuts(n) is_weighted(n, thing) table_of(n, cuts) first_crossing(n, cuts)",
    "trees": "tree_told(table) tree_weight(table, cut)",
    "rings": "ring_weight(table, ring, a, b) ring_told(table, ring) first_ring(table)",
    "sums": "sum_told(table) possible_cuts(table) sum_with(table, cut)",
    "papers": "shows(table, answer)",
    "splits": "cut_index(table, cut) splits_of(table) rest_table(table) first_at_odds(n, cuts)",
    "lines": "line_told(table) line_cuts(table)",
    "webs": "web_table(n, roads) halved_told(n, roads) web_of_words(words)",
    "alone": "one_way(table) stand_alone(n, cuts)",
    "near": "fault_of(table, cuts) nearest_sum(table) row_shows(table, row, number)",
    "texts": "show_table(table) show_cuts(cuts) read_table(text) read_cuts(n, text)",
}


class Interface(unittest.TestCase):
    def test_names_and_arguments(self):
        for name, promised in INTERFACE.items():
            module = importlib.import_module("farcuts." + name)
            for one in promised.replace(") ", ")|").split("|"):
                function = getattr(module, one.partition("(")[0])
                self.assertEqual(one, function.__name__ + str(inspect.signature(function)))
                self.assertEqual(function.__module__, "farcuts." + name)

    def test_the_desk(self):
        self.assertTrue(inspect.isclass(Desk))
        self.assertEqual(str(inspect.signature(Desk)), "()")
        self.assertEqual(str(inspect.signature(Desk().say)), "(row)")


def tables_of(chance, n):
    """Tables of all kinds: sums and none, long and short, of trees, of rings, of lines."""
    found = [line(n), mixed(n), wild(n), nought(n), drawn_table(chance, n), drawn_table(chance, n, 1), drawn_long(chance, n)]
    found += [summed(n, drawn_cuts(chance, n, many, plain=True)) for many in (1, 2, 3, 6)]
    found.append(summed(n, drawn_tree(chance, n, plain=True)))
    if n > 2:
        cuts = sorted(ring_cuts(drawn_ring(chance, n)).values())
        found.append(summed(n, [(cut, (chance.randrange(1, 5), 1)) for cut in cuts]))
    return found


class Promise(AskCase):
    def test_of_each_table_of_up_to_seven_points_just_one_is_told(self):
        chance = chance_of(170)
        for n in range(1, 8):
            for table in tables_of(chance, n):
                told = sum_told(table)
                self.assertIs(shows(table, told), True)
                # A bar of it would be one of the sum that is told, so none is let by.
                if told[0] == "cuts":
                    self.check_no_bars(table, chance)

    def check_no_bars(self, table, chance):
        n = len(table)
        pairs = list(itertools.combinations(range(n), 2))
        for turn in range(4):
            self.assertIs(shows(table, ("bars", [(chance.randrange(-3, 4), 1) for one in pairs])), False)
            points = [1, 1, -1, 1, -1, 1, -1][:n]
            chance.shuffle(points)
            numbers = [(-product, 1) for product in bar_products(n, points)]
            if sum(points) == 1:
                self.assertIs(shows(table, ("bars", numbers)), False)

    def test_what_follows_of_a_sum(self):
        chance = chance_of(171)
        for n in range(1, 6):
            for table in tables_of(chance, n):
                is_sum = sum_told(table)[0] == "cuts"
                self.assertEqual(one_way(table)[0] != "none", is_sum)
                self.assertEqual(nearest_sum(table)[0] == (0, 1), is_sum)
                self.assertEqual(desk_of(table).say("sum a"), "yes" if is_sum else "no")
                if is_sum:
                    self.assertIsNone(first_short(table))
                    possible = possible_cuts(table)
                    self.assertEqual(one_way(table)[0] == "one", stand_alone(n, possible))
                    for cut in all_cuts(n):
                        self.assertEqual(sum_with(table, cut) is not None, cut in possible)
                if tree_told(table)[0] == "tree":
                    self.assertTrue(is_sum)

    def test_trees(self):
        chance = chance_of(172)
        for n in range(1, 9):
            for table in tables_of(chance, n):
                told = tree_told(table)
                if told[0] == "tree":
                    self.assertIsNone(first_crossing(n, told[1]))
                    self.assertEqual(table_of(n, told[1]), table)
                    self.assertEqual(splits_of(table), told[1])
                    for cut, weight in told[1]:
                        self.assertEqual(tree_weight(table, cut), weight)
                    if n > 2:
                        self.assertEqual(ring_told(table, first_ring(table)), ("ring", told[1]))
                elif len(told[1]) == 4:
                    self.assertEqual(tree_told(part_of(table, list(told[1]))), ("bars", (0, 1, 2, 3)))

    def test_by_a_told_ring_each_table_is_one_sum(self):
        chance = chance_of(173)
        for n in range(3, 9):
            ring = drawn_ring(chance, n)
            for table in (drawn_table(chance, n), wild(n), drawn_long(chance, n)):
                weighted = [(cut, Fraction(*ring_weight(table, ring, a, b))) for (a, b), cut in ring_cuts(ring).items()]
                for i, j in itertools.combinations(range(n), 2):
                    total = sum(weight for cut, weight in weighted if parts(cut, i, j))
                    self.assertEqual(pair(total), table[i][j])

    def test_splits_and_rests(self):
        chance = chance_of(174)
        for n in range(1, 8):
            for table in tables_of(chance, n):
                if first_short(table) is None:
                    self.assertIsNone(first_at_odds(n, splits_of(table)))
                    self.assertEqual(added(table_of(n, splits_of(table)), rest_table(table)), table)

    def test_lines(self):
        chance = chance_of(175)
        for n in range(1, 9):
            for table in tables_of(chance, n):
                if line_told(table)[0] == "line":
                    self.assertEqual(tree_told(table), ("tree", line_cuts(table)))
                else:
                    bars = line_told(table)[1]
                    self.assertEqual(line_told(part_of(table, list(bars))), ("bars", tuple(range(len(bars)))))

    def test_webs(self):
        for words in (["00", "01", "11", "10"], ["000", "001", "011", "111", "110", "100"], [""], ["0", "1"]):
            n, roads = web_of_words(words)
            told = halved_told(n, roads)
            self.assertEqual(told[0], "halves")
            self.assertEqual(web_of_words(told[1]), (n, roads))
            self.assertEqual(sum_told(web_table(n, roads))[0], "cuts")

    def test_nearest_sums(self):
        chance = chance_of(176)
        for n in range(1, 6):
            for table in tables_of(chance, n):
                fault, cuts, row = nearest_sum(table)
                self.assertEqual(fault_of(table, cuts), fault)
                self.assertIs(row_shows(table, row, fault), True)
                # The same row with its signs turned bars the table, where its worth is above 0.
                bars = [minus((0, 1), q) for q in row]
                self.assertEqual(shows(table, ("bars", bars)), fault[0] > 0)

    def test_texts(self):
        chance = chance_of(177)
        for n in range(1, 11):
            for table in tables_of(chance, n) if n < 8 else (line(n), mixed(n), wild(n)):
                self.assertEqual(read_table(show_table(table)), table)
                if first_short(table) is None:
                    self.assertEqual(read_cuts(n, show_cuts(splits_of(table))), splits_of(table))


def desk_of(table):
    desk = Desk()
    distances = [table[i][j] for i, j in itertools.combinations(range(len(table)), 2)]
    words = ["table", "a", str(len(table))] + [str(Fraction(*q)) for q in distances]
    desk.say(" ".join(words))
    return desk


class ToldAndHandedIn(AskCase):
    def test_each_answer_is_plain_and_new(self):
        chance = chance_of(178)
        for n in (1, 3, 5):
            for table in tables_of(chance, n):
                for ask in (tree_told, sum_told, possible_cuts, line_told, one_way, nearest_sum, show_table):
                    self.asked(ask, table)

    def test_nothing_told_changes_what_is_told_later(self):
        table = summed(5, [(cut, (1, 2)) for cut in sides(5)])
        asks = (tree_told, sum_told, possible_cuts, splits_of, rest_table, line_told, one_way, nearest_sum, first_ring)
        first = [copy.deepcopy(ask(table)) for ask in asks]
        for ask in asks:
            self.check_free_of_what_was_told(ask, table)
        self.assertEqual([ask(table) for ask in asks], first)
        self.check_free_of_what_was_told(all_cuts, 5)

    def test_told_cuts_are_handed_in(self):
        chance = chance_of(179)
        for n in (2, 4, 5):
            for table in tables_of(chance, n):
                fault, cuts, row = nearest_sum(table)
                self.assertIs(is_weighted(n, cuts), True)
                self.assertIs(is_table(table_of(n, cuts)), True)
                self.assertEqual(sum_told(table_of(n, cuts))[0], "cuts")
                two = first_crossing(n, cuts)
                if two is not None:
                    self.assertTrue(cross(n, cuts[two[0]][0], cuts[two[1]][0]))


if __name__ == "__main__":
    unittest.main()
