"""Points [24], [25], [26], and [2], [3] as far as they reach webs."""

import itertools
import unittest

from helping import FIFTY, AskCase, chance_of, sides, summed

from farcuts.cuts import cut_of
from farcuts.errors import NoWeb
from farcuts.sums import sum_told
from farcuts.tables import first_short, is_table
from farcuts.webs import halved_told, web_of_words, web_table


def way_lengths(n, roads):
    """How many roads the shortest way has, by going over every point between; None where there is no way."""
    rows = [[0 if i == j else 99 for j in range(n)] for i in range(n)]
    for a, b in roads:
        rows[a][b] = rows[b][a] = 1
    for k, i, j in itertools.product(range(n), repeat=3):
        rows[i][j] = min(rows[i][j], rows[i][k] + rows[k][j])
    return rows


def hangs_together(n, roads):
    return max(way_lengths(n, roads)[0]) < 99


def nearer(rows, a, b):
    return [x for x in range(len(rows)) if rows[a][x] < rows[b][x]]


def due_told(n, roads):
    """By the words of [25]."""
    rows = way_lengths(n, roads)
    for a, b in roads:
        for x in range(n):
            if rows[a][x] == rows[b][x]:
                return ("even", (a, b, x))
    for a, b in roads:
        for x, y, z in itertools.product(range(n), repeat=3):
            for side in (nearer(rows, a, b), nearer(rows, b, a)):
                if x < y and x in side and y in side and z not in side and rows[x][z] + rows[z][y] == rows[x][y]:
                    return ("not whole", (a, b, x, y, z))
    cuts = sorted({tuple(cut_of(n, nearer(rows, a, b))) for a, b in roads})
    return ("halves", ["".join("1" if point in cut else "0" for cut in cuts) for point in range(n)])


def all_webs(n):
    pairs = list(itertools.combinations(range(n), 2))
    for chosen in itertools.product((False, True), repeat=len(pairs)):
        roads = [pair for pair, is_road in zip(pairs, chosen) if is_road]
        if hangs_together(n, roads):
            yield roads


def drawn_way_tree(chance, n):
    """A web in which just one way leads to each point."""
    order = chance.sample(range(n), n)
    roads = [(order[k], chance.choice(order[:k])) for k in range(1, n)]
    return sorted((min(road), max(road)) for road in roads)


def drawn_web(chance, n, more):
    roads = set(drawn_way_tree(chance, n))
    roads |= set(chance.sample(list(itertools.combinations(range(n), 2)), min(more, n * (n - 1) // 2)))
    return sorted(roads)


def ring(n):
    return sorted([(k, k + 1) for k in range(n - 1)] + [(0, n - 1)])


def full(n):
    return list(itertools.combinations(range(n), 2))


def of_two_kinds(a, b):
    """Each of a points has a road to each of b others."""
    return [(i, a + j) for i in range(a) for j in range(b)]


def unlike(word, other):
    return sum(sign != beside for sign, beside in zip(word, other))


def cube(length):
    return ["".join(signs) for signs in itertools.product("01", repeat=length)]


def word_roads(words):
    return [(i, j) for i, j in itertools.combinations(range(len(words)), 2) if unlike(words[i], words[j]) == 1]


def not_webs(n):
    """Lists that are no web of n points, in each way."""
    way = [(k, k + 1) for k in range(n - 1)]
    found = [way + [(n - 1, n)], way + [(n, n + 1)], [(-1, 0)] + way, [(-1, n - 1)] + way, way + [(FIFTY, FIFTY + 1)]]
    found += [[(0, 0)] + way, way + [(n - 1, n - 1)], [(-FIFTY, 0)] + way, way + [(n - 1, FIFTY)]]
    if n > 1:
        found += [way + way[-1:], way[:1] + way, [(1, 0)] + way[1:], way[:-1] + [(n - 1, n - 2)], way[:-1], way[1:], []]
    if n > 2:
        found += [way[::-1], way[1:] + way[:1], [(0, 2), (0, 1)] + way[1:], way[:-2] + [(n - 3, n - 1)]]
    return found


class WebCase(AskCase):
    def check_no_web(self, n, roads):
        self.check_refused(NoWeb, web_table, n, roads)
        self.check_refused(NoWeb, halved_told, n, roads)


class WebTables(WebCase):
    def check_told(self, n, roads):
        told = self.asked(web_table, n, roads)
        self.assertEqual(told, [[(far, 1) for far in row] for row in way_lengths(n, roads)])
        self.assertIs(is_table(told), True)
        self.assertIsNone(first_short(told))

    def test_all_webs_of_up_to_four_points(self):
        for n in (1, 2, 3, 4):
            for roads in all_webs(n):
                self.check_told(n, roads)

    def test_drawn_webs(self):
        chance = chance_of(110)
        for n in range(1, 11):
            for more in (0, 1, 2, 4, 9, 20, 45):
                self.check_told(n, drawn_web(chance, n, more))

    def test_by_hand(self):
        self.assertEqual(web_table(1, []), [[(0, 1)]])
        self.assertEqual(web_table(2, [(0, 1)]), [[(0, 1), (1, 1)], [(1, 1), (0, 1)]])
        self.assertEqual(web_table(10, [(k, k + 1) for k in range(9)])[0], [(k, 1) for k in range(10)])
        self.assertEqual(web_table(10, [(0, k) for k in range(1, 10)])[3][7], (2, 1))
        self.assertEqual(web_table(10, full(10))[3], [(1, 1)] * 3 + [(0, 1)] + [(1, 1)] * 6)
        self.assertEqual(web_table(7, ring(7))[0], [(0, 1), (1, 1), (2, 1), (3, 1), (3, 1), (2, 1), (1, 1)])

    def test_no_web_of_n_points(self):
        for n in (0, -1, 11, 12, -FIFTY, FIFTY):
            for roads in ([], [(0, 1)], [(0, k) for k in range(1, 11)]):
                self.check_no_web(n, roads)
        self.check_no_web(11, [(k, k + 1) for k in range(10)])
        self.check_no_web(12, full(12))

    def test_lists_that_are_no_web(self):
        for n in range(1, 11):
            for roads in not_webs(n):
                self.check_no_web(n, roads)

    def test_one_thing_otherwise(self):
        chance = chance_of(111)
        for n in (3, 5, 8, 10):
            roads = drawn_web(chance, n, 4)
            self.check_told(n, roads)
            for place, (a, b) in enumerate(roads):
                before, behind = roads[:place], roads[place + 1:]
                self.check_no_web(n, before + [(b, a)] + behind)
                self.check_no_web(n, before + [(a, b), (a, b)] + behind)
                self.check_no_web(n, before + [(a, n)] + behind)
                self.check_no_web(n, before + [(a, a)] + behind)
                if before + behind and not hangs_together(n, before + behind):
                    self.check_no_web(n, before + behind)
                if before:
                    self.check_no_web(n, before[:-1] + [(a, b), before[-1]] + behind)

    def test_points_that_cannot_be_come_to(self):
        self.check_no_web(2, [])
        self.check_no_web(3, [(1, 2)])
        self.check_no_web(4, [(0, 1), (2, 3)])
        self.check_no_web(10, [(a, b) for a, b in full(10) if b < 9])
        self.check_no_web(10, [(a, b) for a, b in full(10) if (a < 5) == (b < 5)])

    def test_long_lists(self):
        self.check_no_web(10, [(0, 1)] * 1000)
        self.check_no_web(10, full(45)[:990])

    def test_told_lists_are_the_askers_own(self):
        for n, roads in ((1, []), (2, [(0, 1)]), (6, ring(6)), (10, full(10))):
            self.check_free_of_what_was_told(web_table, n, roads)


class WebsHalved(WebCase):
    def check_told(self, n, roads):
        told = self.asked(halved_told, n, roads)
        self.assertIs(type(told), tuple)
        self.assertEqual(len(told), 2)
        self.assertEqual(told, due_told(n, roads))
        if told[0] == "halves":
            self.check_words(n, roads, told[1])
        else:
            self.assertIs(type(told[1]), tuple)
            self.assertEqual([type(point) for point in told[1]], [int] * (3 if told[0] == "even" else 5))
        return told[0]

    def check_words(self, n, roads, words):
        """Two points are as far from one another as their words have unlike signs; so the web comes back of them."""
        rows = way_lengths(n, roads)
        self.assertIs(type(words), list)
        self.assertEqual([type(word) for word in words], [str] * n)
        for i, j in itertools.product(range(n), repeat=2):
            self.assertEqual(unlike(words[i], words[j]), rows[i][j])
        cuts = [[point for point in range(n) if words[point][k] == "1"] for k in range(len(words[0]))]
        self.assertEqual(cuts, sorted(cuts))
        for cut in cuts:
            self.assertIn(cut, sides(n))
        self.assertEqual(web_of_words(words), (n, roads))
        self.assertEqual(summed(n, [(cut, (1, 1)) for cut in cuts]), web_table(n, roads))

    def test_all_webs_of_up_to_five_points(self):
        found = {}
        for n in (1, 2, 3, 4, 5):
            for roads in all_webs(n):
                told = self.check_told(n, roads)
                found[told] = found.get(told, 0) + 1
        self.assertEqual(sorted(found), ["even", "halves", "not whole"])
        # The one web of five points that is not whole has 2 points with roads to 3 others each: ten ways to name them.
        self.assertEqual(found["not whole"], 10)

    def test_drawn_webs(self):
        chance = chance_of(112)
        for n in range(6, 11):
            for more in (0, 1, 2, 3, 5, 9, 20):
                self.check_told(n, drawn_web(chance, n, more))

    def test_drawn_webs_without_an_even_road(self):
        chance = chance_of(113)
        found = []
        for n in range(5, 11):
            for turn in range(8):
                kinds = [chance.randrange(2) for point in range(n)]
                roads = [(a, b) for a, b in full(n) if kinds[a] != kinds[b] and chance.randrange(4)]
                if hangs_together(n, roads):
                    found.append(self.check_told(n, roads))
        self.assertNotIn("even", found)
        self.assertIn("not whole", found)

    def test_trees_halve(self):
        chance = chance_of(114)
        for n in range(1, 11):
            roads = drawn_way_tree(chance, n)
            self.assertEqual(self.check_told(n, roads), "halves")
            self.assertEqual(len(halved_told(n, roads)[1][0]), n - 1)

    def test_rings(self):
        for n in range(3, 11):
            self.assertEqual(self.check_told(n, ring(n)), "even" if n % 2 else "halves")

    def test_cubes_and_ladders(self):
        for length in (0, 1, 2, 3):
            self.assertEqual(self.check_told(2 ** length, word_roads(cube(length))), "halves")
        ladder = ["0" + "1" * k + "0" * (4 - k) for k in range(5)] + ["1" + "1" * k + "0" * (4 - k) for k in range(5)]
        self.assertEqual(self.check_told(10, word_roads(ladder)), "halves")
        self.assertEqual(self.check_told(7, word_roads(cube(3)[:7])), "halves")

    def test_words_that_fit_halve(self):
        # Where two points are as far from one another as their words, the web halves, whatever the words' signs are.
        chance = chance_of(115)
        found = []
        for turn in range(150):
            words = chance.sample(cube(4), chance.randrange(2, 11))
            roads = word_roads(words)
            if hangs_together(len(words), roads):
                rows = way_lengths(len(words), roads)
                fits = all(unlike(words[i], words[j]) == rows[i][j] for i, j in full(len(words)))
                told = self.check_told(len(words), roads)
                found.append((fits, told))
                if fits:
                    self.assertEqual(told, "halves")
        self.assertIn((True, "halves"), found)
        self.assertIn((False, "not whole"), found)

    def test_by_hand(self):
        self.assertEqual(halved_told(1, []), ("halves", [""]))
        self.assertEqual(halved_told(2, [(0, 1)]), ("halves", ["0", "1"]))
        # The cuts sorted: [1, 2] ahead of [2].
        self.assertEqual(halved_told(3, [(0, 1), (1, 2)]), ("halves", ["00", "10", "11"]))
        self.assertEqual(halved_told(3, [(0, 2), (1, 2)]), ("halves", ["00", "11", "01"]))
        self.assertEqual(halved_told(4, ring(4)), ("halves", ["00", "10", "11", "01"]))
        self.assertEqual(halved_told(3, full(3)), ("even", (0, 1, 2)))
        self.assertEqual(halved_told(5, ring(5)), ("even", (0, 1, 3)))
        self.assertEqual(halved_told(10, full(10)), ("even", (0, 1, 2)))
        # Two points with roads to three others: those nearer to 0 than to 2 are 0, 3, 4, and 1 lies between 3 and 4.
        self.assertEqual(halved_told(5, of_two_kinds(2, 3)), ("not whole", (0, 2, 3, 4, 1)))
        self.assertEqual(halved_told(10, of_two_kinds(5, 5))[0], "not whole")

    def test_even_goes_ahead_of_not_whole(self):
        # A triangle behind the web that is not whole: each road of it comes last in order.
        roads = of_two_kinds(2, 3) + [(4, 5), (4, 6), (5, 6)]
        self.assertEqual(self.check_told(7, roads), "even")
        self.assertEqual(halved_told(7, roads), ("even", (4, 5, 6)))
        roads = of_two_kinds(2, 3) + [(4, 5), (4, 6)]
        self.assertEqual(halved_told(7, roads), ("not whole", (0, 2, 3, 4, 1)))

    def test_first_road_and_points(self):
        # Roads ahead that halve are gone by, and the far side may be the one that is not whole.
        roads = [(0, 1)] + [(a + 1, b + 1) for a, b in of_two_kinds(2, 3)]
        self.assertEqual(halved_told(6, roads), ("not whole", (1, 3, 4, 5, 2)))
        roads = sorted([(0, 3), (1, 3), (2, 3), (0, 4), (1, 4), (2, 4)])
        self.assertEqual(halved_told(5, roads), ("not whole", (0, 3, 1, 2, 4)))
        self.assertEqual(due_told(5, roads), ("not whole", (0, 3, 1, 2, 4)))

    def test_a_web_that_halves_is_a_sum(self):
        for n, roads in ((1, []), (4, ring(4)), (6, ring(6)), (7, word_roads(cube(3)[:7]))):
            self.assertEqual(sum_told(web_table(n, roads))[0], "cuts")

    def test_told_lists_are_the_askers_own(self):
        for n, roads in ((1, []), (4, ring(4)), (5, ring(5)), (5, of_two_kinds(2, 3)), (8, word_roads(cube(3)))):
            self.check_free_of_what_was_told(halved_told, n, roads)


class WebsOfWords(WebCase):
    def check_told(self, words):
        told = self.asked(web_of_words, words)
        self.assertIs(type(told), tuple)
        self.assertEqual(told, (len(words), word_roads(words)))
        self.assertIs(type(told[1]), list)
        self.assertEqual([type(road) for road in told[1]], [tuple] * len(told[1]))
        self.assertIs(is_table(web_table(*told)), True)

    def test_drawn_words(self):
        chance = chance_of(116)
        found = []
        for turn in range(400):
            length = chance.randrange(5)
            words = chance.sample(cube(length), min(2 ** length, chance.randrange(1, 11)))
            if hangs_together(len(words), word_roads(words)):
                self.check_told(words)
                found.append(len(words))
            else:
                self.check_refused(NoWeb, web_of_words, words)
                found.append(0)
        self.assertEqual(sorted(set(found)), list(range(11)))

    def test_by_hand(self):
        self.assertEqual(web_of_words([""]), (1, []))
        self.assertEqual(web_of_words(["0"]), (1, []))
        self.assertEqual(web_of_words(["1011"]), (1, []))
        self.assertEqual(web_of_words(["1", "0"]), (2, [(0, 1)]))
        self.assertEqual(web_of_words(["11", "00", "01"]), (3, [(0, 2), (1, 2)]))
        self.assertEqual(web_of_words(["00", "01", "10", "11"]), (4, [(0, 1), (0, 2), (1, 3), (2, 3)]))
        # Ten words in a row, each with one sign more, and signs that are alike in all.
        row = ["01" + "1" * k + "0" * (9 - k) for k in range(10)]
        self.assertEqual(web_of_words(row), (10, [(k, k + 1) for k in range(9)]))
        long_row = ["0" * 900 + "1" * k + "0" * (9 - k) for k in range(10)]
        self.assertEqual(web_of_words(long_row), (10, [(k, k + 1) for k in range(9)]))

    def test_told_by_words_and_halved(self):
        # The cuts of a star with its middle at 3, sorted: [1], [1, 2, 3], [2].
        star = ["110", "101", "011", "111"]
        self.assertEqual(halved_told(*web_of_words(star)), ("halves", ["000", "110", "011", "010"]))
        around = ["000", "001", "011", "111", "110", "100"]
        self.assertEqual(halved_told(*web_of_words(around))[0], "halves")

    def test_it_need_not_halve(self):
        # 0001 and 1101 are two signs apart, but four roads: what lies between would be 0101 or 1001.
        words = ["0000", "0001", "0010", "0011", "0100", "0111", "1100", "1101", "1111"]
        told = web_of_words(words)
        self.assertEqual(web_table(*told)[1][7], (4, 1))
        self.assertEqual(halved_told(*told), due_told(*told))
        self.assertEqual(halved_told(*told), ("not whole", (0, 1, 2, 7, 3)))

    def test_no_words(self):
        self.check_refused(NoWeb, web_of_words, [])

    def test_too_many(self):
        for many in (11, 12, 16):
            self.check_refused(NoWeb, web_of_words, cube(4)[:many])
        self.check_refused(NoWeb, web_of_words, ["1" * k + "0" * (10 - k) for k in range(11)])
        self.check_refused(NoWeb, web_of_words, [format(k, "010b") for k in range(1000)])

    def test_two_alike(self):
        for words in (["", ""], ["0", "0"], ["0", "1", "0"], ["00", "01", "11", "01"], ["10", "10"]):
            self.check_refused(NoWeb, web_of_words, words)

    def test_unlike_lengths(self):
        for words in (["", "0"], ["0", ""], ["0", "01"], ["00", "0"], ["00", "01", "1"], ["0", "1", "00", "01"]):
            self.check_refused(NoWeb, web_of_words, words)

    def test_other_signs(self):
        for sign in ("2", " ", "a", "-", "\n", "\t", "~", "O", "\u0661", "\u00b9"):
            for words in ([sign], ["0" + sign, "00"], ["00", "0" + sign], ["0", "1", sign], ["01", sign + "1"]):
                self.check_refused(NoWeb, web_of_words, words)
        self.check_refused(NoWeb, web_of_words, ["none"])
        self.check_refused(NoWeb, web_of_words, ["0 ", "1 "])
        # As many signs 0 and 1 as the others have, and one more besides.
        for words in (["0", "1", "0x"], ["00", "01", "1 1"], ["0x", "0", "1"], ["", "x"]):
            self.check_refused(NoWeb, web_of_words, words)

    def test_words_that_cannot_be_come_to(self):
        for words in (["00", "11"], ["000", "001", "110", "111"], ["0" * 9, "1" * 9], ["00", "01", "11"][::2]):
            self.check_refused(NoWeb, web_of_words, words)

    def test_told_lists_are_the_askers_own(self):
        for words in ([""], ["0", "1"], cube(2), cube(3), ["110", "101", "011", "111"]):
            self.check_free_of_what_was_told(web_of_words, words)


if __name__ == "__main__":
    unittest.main()
