"""The desk: tables kept by names, asked about row by row."""

from farcuts.cuts import table_of
from farcuts.errors import NoName, NoNumber, NoPoint, NoRow
from farcuts.fractions import show_fraction
from farcuts.lines import line_told
from farcuts.near import nearest_sum
from farcuts.pairs import distances_of, is_point_count, pairs_of, table_of_pairs
from farcuts.splits import rest_table, splits_of
from farcuts.sums import sum_told
from farcuts.texts import is_number, read_cuts, read_fraction, show_cuts
from farcuts.trees import tree_told
from farcuts.wholes import greatest_of

LETTERS = "abcdefghijklmnopqrstuvwxyz"
LONGEST_NAME = 8
DONE = "ok"


def say_fractions(numbers):
    return " ".join([show_fraction(q) for q in numbers])


def say_bars(points):
    return " ".join(["bars"] + [str(point) for point in points])


def say_tree(table):
    told = tree_told(table)
    return show_cuts(told[1]) if told[0] == "tree" else say_bars(told[1])


def say_sum(table):
    return "yes" if sum_told(table)[0] == "cuts" else "no"


def say_line(table):
    told = line_told(table)
    return say_fractions(told[1]) if told[0] == "line" else say_bars(told[1])


def say_splits(table):
    return show_cuts(splits_of(table))


def say_rest(table):
    greatest = greatest_of(distances_of(rest_table(table)))
    return show_fraction(greatest) if greatest[0] > 0 else "none"


def say_near(table):
    return show_fraction(nearest_sum(table)[0])


def say_far(table, a, b):
    if a >= len(table) or b >= len(table):
        raise NoPoint("the table has no such point")
    return show_fraction(table[a][b])


ASKED_OF_ONE = {
    "tree": say_tree,
    "sum": say_sum,
    "line": say_line,
    "splits": say_splits,
    "rest": say_rest,
    "near": say_near,
}


def is_name(word):
    for sign in word:
        if sign not in LETTERS:
            return False
    return 1 <= len(word) <= LONGEST_NAME


def is_count_word(word):
    return is_number(word) and is_point_count(int(word))


def are_fractions(words):
    for word in words:
        if read_fraction(word) is None:
            return False
    return True


def is_right_behind_name(kind, words):
    if kind == "table":
        return len(words) >= 1 and is_count_word(words[0]) and are_fractions(words[1:])
    if kind == "cuts":
        return len(words) >= 2 and is_count_word(words[0])
    if kind == "far":
        return len(words) == 2 and is_number(words[0]) and is_number(words[1])
    return len(words) == 0 and (kind == "drop" or kind in ASKED_OF_ONE)


def is_desk_row(thing):
    if not isinstance(thing, str):
        return False
    words = thing.split(" ")
    if words[0] == "names":
        return len(words) == 1
    return len(words) >= 2 and is_name(words[1]) and is_right_behind_name(words[0], words[2:])


def words_of(row):
    if not is_desk_row(row):
        raise NoRow("the desk knows no such row")
    return row.split(" ")


def table_said(n, words):
    if len(words) != len(pairs_of(n)):
        raise NoNumber("there are not as many distances as pairs")
    return table_of_pairs(n, [read_fraction(word) for word in words])


# In the cuts blanks have a meaning of their own, so they are put back as they stood.
def cuts_said(n, words):
    return table_of(n, read_cuts(n, " ".join(words)))


class Desk:
    def __init__(self):
        self.tables = {}

    def say(self, row):
        words = words_of(row)
        if words[0] == "names":
            return self.say_names()
        if words[0] == "table":
            return self.keep(words[1], table_said(int(words[2]), words[3:]))
        if words[0] == "cuts":
            return self.keep(words[1], cuts_said(int(words[2]), words[3:]))
        return self.say_of(self.kept(words[1]), words)

    def say_of(self, table, words):
        if words[0] == "drop":
            self.tables.pop(words[1])
            return DONE
        if words[0] == "far":
            return say_far(table, int(words[2]), int(words[3]))
        return ASKED_OF_ONE[words[0]](table)

    def keep(self, name, table):
        self.tables[name] = table
        return DONE

    def kept(self, name):
        if name not in self.tables:
            raise NoName("no table is kept by this name")
        return self.tables[name]

    def say_names(self):
        return " ".join(sorted(self.tables)) if len(self.tables) > 0 else "none"
