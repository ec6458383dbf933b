"""Texts: tables and weighted cuts written, and read back to the same."""

from farcuts.cuts import is_weighted
from farcuts.errors import NoText
from farcuts.fractions import is_fraction, show_fraction
from farcuts.pairs import is_point_count
from farcuts.tables import is_table

FIGURES = "0123456789"
MOST_FIGURES = 40
NO_CUTS = "none"


def show_table(table):
    lines = []
    for row in table:
        lines.append(" ".join([show_fraction(q) for q in row]))
    return "\n".join(lines)


def show_cut(cut):
    return " ".join([str(point) for point in cut])


def show_cuts(cuts):
    if len(cuts) == 0:
        return NO_CUTS
    return "; ".join([show_cut(cut) + ": " + show_fraction(weight) for cut, weight in cuts])


# Python reads figures of other scripts and blanks around them too, so each sign is looked at.
def is_number(word):
    if not 1 <= len(word) <= MOST_FIGURES:
        return False
    for sign in word:
        if sign not in FIGURES:
            return False
    return word == "0" or word[0] != "0"


def read_number(word):
    return int(word) if is_number(word) else None


# None where the word writes no fraction.
def read_fraction(word):
    numbers = [read_number(part) for part in word.split("/")]
    if len(numbers) == 1:
        numbers.append(1)
    q = tuple(numbers)
    # Written again it shows whether a bottom of 1 stood there.
    return q if is_fraction(q) and show_fraction(q) == word else None


def check_text(text):
    if not isinstance(text, str):
        raise NoText("what is no text is not read")


# What is None within a table or a cut makes it none.
def read_table(text):
    check_text(text)
    table = []
    for line in text.split("\n"):
        table.append([read_fraction(word) for word in line.split(" ")])
    if not is_point_count(len(table)) or not is_table(table):
        raise NoText("the text writes no table of one to ten points")
    return table


def read_weighted(text):
    parts = text.split(": ")
    if len(parts) != 2:
        return None
    return ([read_number(word) for word in parts[0].split(" ")], read_fraction(parts[1]))


def read_all_weighted(text):
    if text == NO_CUTS:
        return []
    return [read_weighted(part) for part in text.split("; ")]


def read_cuts(n, text):
    check_text(text)
    cuts = read_all_weighted(text)
    if not is_point_count(n) or not is_weighted(n, cuts):
        raise NoText("the text writes no weighted cuts for so many points")
    return cuts
