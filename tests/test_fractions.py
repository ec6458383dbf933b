"""Point [5]: fractions, and of [2] what a whole number and a fraction is."""

import math
import unittest
from fractions import Fraction

from farcuts.errors import NoNumber
from farcuts.fractions import divided, fraction, is_below, is_fraction, is_whole
from farcuts.fractions import minus, plus, show_fraction, times

FIFTY = 10 ** 50 - 1
LONG = 12345678901234567890123456789012345678901234567890
NUMBERS = (
    0, 1, 2, 3, 4, 6, 7, 12, 30, 97, 2 ** 40, 3 ** 30, 10 ** 25, 2 ** 166, LONG, 6 * (LONG // 7), FIFTY,
)
SIGNED = NUMBERS + tuple(-number for number in NUMBERS if number)


def pair(exact):
    return (exact.numerator, exact.denominator)


def samples():
    found = []
    for top in (0, 1, 2, 5, 12, 10 ** 25, LONG, FIFTY, -1, -3, -12, -LONG):
        for bottom in (1, 2, 3, 12, 10 ** 25, FIFTY):
            found.append(pair(Fraction(top, bottom)))
    return sorted(set(found))


class FractionCase(unittest.TestCase):
    def check_fraction(self, thing):
        self.assertIs(type(thing), tuple)
        self.assertEqual([type(part) for part in thing], [int, int])
        self.assertGreaterEqual(thing[1], 1)
        self.assertEqual(math.gcd(*thing), 1)

    def check_refused(self, ask, *handed):
        with self.assertRaises(NoNumber) as caught:
            ask(*handed)
        self.assertIs(type(caught.exception), NoNumber)


class Making(FractionCase):
    def test_in_least_numbers(self):
        for top in SIGNED:
            for bottom in SIGNED:
                if bottom:
                    made = fraction(top, bottom)
                    self.check_fraction(made)
                    self.assertEqual(made, pair(Fraction(top, bottom)))

    def test_plain_ones(self):
        self.assertEqual(fraction(6, 4), (3, 2))
        self.assertEqual(fraction(-6, 4), (-3, 2))
        self.assertEqual(fraction(6, -4), (-3, 2))
        self.assertEqual(fraction(-6, -4), (3, 2))
        self.assertEqual(fraction(5, 1), (5, 1))
        self.assertEqual(fraction(5, -1), (-5, 1))

    def test_of_nought(self):
        for bottom in SIGNED:
            if bottom:
                self.assertEqual(fraction(0, bottom), (0, 1))

    def test_bottom_of_nought_is_refused(self):
        for top in SIGNED:
            self.check_refused(fraction, top, 0)

    def test_what_is_no_whole_number_is_refused(self):
        for thing in (True, False, None, "1", 1.5, (1, 1), [1]):
            self.check_refused(fraction, thing, 2)
            self.check_refused(fraction, 2, thing)


class Reckoning(FractionCase):
    def test_sums_differences_products(self):
        for q in samples():
            for r in samples():
                exact, other = Fraction(*q), Fraction(*r)
                for ask, due in ((plus, exact + other), (minus, exact - other), (times, exact * other)):
                    told = ask(q, r)
                    self.check_fraction(told)
                    self.assertEqual(told, pair(due))

    def test_quotients(self):
        for q in samples():
            for r in samples():
                if r != (0, 1):
                    told = divided(q, r)
                    self.check_fraction(told)
                    self.assertEqual(told, pair(Fraction(*q) / Fraction(*r)))

    def test_quotient_by_nought_is_refused(self):
        for q in samples():
            self.check_refused(divided, q, (0, 1))

    def test_plain_ones(self):
        self.assertEqual(plus((1, 2), (1, 3)), (5, 6))
        self.assertEqual(plus((1, 2), (-1, 2)), (0, 1))
        self.assertEqual(minus((1, 3), (1, 2)), (-1, 6))
        self.assertEqual(minus((7, 9), (7, 9)), (0, 1))
        self.assertEqual(times((2, 3), (3, 2)), (1, 1))
        self.assertEqual(times((0, 1), (-3, 2)), (0, 1))
        self.assertEqual(divided((1, 2), (-1, 4)), (-2, 1))
        self.assertEqual(divided((0, 1), (-1, 4)), (0, 1))

    def test_what_is_told_is_handed_in_again(self):
        for q in samples():
            for r in samples():
                self.assertEqual(minus(plus(q, r), r), q)
                self.assertEqual(plus(minus(q, r), r), q)
                self.assertEqual(plus(r, minus(q, r)), q)
                if r != (0, 1):
                    self.assertEqual(divided(times(q, r), r), q)
                    self.assertEqual(times(divided(q, r), r), q)
                    self.assertEqual(times(r, divided(q, r)), q)

    def test_orders_do_not_matter(self):
        some = samples()[::5]
        for q in some:
            for r in some:
                self.assertEqual(plus(q, r), plus(r, q))
                self.assertEqual(times(q, r), times(r, q))
                for s in some:
                    self.assertEqual(plus(plus(q, r), s), plus(q, plus(r, s)))
                    self.assertEqual(times(q, plus(r, s)), plus(times(q, r), times(q, s)))

    def test_long_told_numbers(self):
        told, exact = (1, 1), Fraction(1)
        for step in range(1, 20):
            told = plus(told, (1, FIFTY - step))
            exact += Fraction(1, FIFTY - step)
            self.assertEqual(told, pair(exact))
        self.assertGreater(len(str(told[1])), 500)
        self.assertEqual(show_fraction(told), str(exact))


class Comparing(unittest.TestCase):
    def test_both_ways(self):
        for q in samples():
            for r in samples():
                self.assertIs(is_below(q, r), Fraction(*q) < Fraction(*r))

    def test_alike_ones(self):
        for q in samples():
            self.assertIs(is_below(q, q), False)

    def test_by_very_little(self):
        self.assertIs(is_below((FIFTY - 1, FIFTY), (FIFTY, FIFTY + 1)), True)
        self.assertIs(is_below((FIFTY, FIFTY + 1), (FIFTY - 1, FIFTY)), False)


class Showing(unittest.TestCase):
    def test_whole_ones(self):
        for top in SIGNED:
            self.assertEqual(show_fraction((top, 1)), str(top))

    def test_others(self):
        self.assertEqual(show_fraction((1, 2)), "1/2")
        self.assertEqual(show_fraction((22, 7)), "22/7")
        self.assertEqual(show_fraction((1, FIFTY)), "1/" + "9" * 50)

    def test_below_nought(self):
        self.assertEqual(show_fraction((-3, 1)), "-3")
        self.assertEqual(show_fraction((-3, 2)), "-3/2")


class Kinds(unittest.TestCase):
    def test_whole_numbers(self):
        for number in SIGNED:
            self.assertIs(is_whole(number), True)
        for thing in (True, False, None, "1", 1.0, (1,), [1]):
            self.assertIs(is_whole(thing), False)

    def test_fractions(self):
        for q in samples():
            self.assertIs(is_fraction(q), True)
        for thing in (
            None, 1, "1/2", [1, 2], (), (1,), (1, 2, 3), (2, 4), (0, 2), (1, 0), (0, 0), (1, -2), (0, -1),
            (True, 1), (1, True), (False, 1), (1.0, 1), (1, 2.0), ("1", 2), (None, 1), ((1, 1), 1),
        ):
            self.assertIs(is_fraction(thing), False, thing)


if __name__ == "__main__":
    unittest.main()
