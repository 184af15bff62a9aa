"""Point 4: fractions."""

import unittest
from fractions import Fraction

from neartwins.errors import NoDivisor, NoNumber
from neartwins.fractions import (
    apart, fraction, is_fraction, is_whole, minus, over, plus, times, total, under,
)
from tests.things import NO_FRACTIONS, NO_WHOLES, check_in_good_time, check_left_alone, number_of, pair

LONG = 10 ** 60 - 1
WHOLES = [0, 1, -1, 2, -2, 3, 4, 6, -6, 7, 12, 35, -100, 999, 1000, LONG, -LONG, LONG - 1, 2 ** 190, 3 ** 120]
SOME = [
    (0, 1), (1, 1), (-1, 1), (1, 2), (-1, 2), (1, 3), (2, 3), (-5, 6), (7, 4), (12, 35), (999, 998), (-3, 1000),
    (LONG, 1), (1, LONG), (-LONG, LONG - 1), (2 ** 190, 3 ** 120),
]


class Kinds(unittest.TestCase):
    def test_whole_numbers(self):
        for thing in WHOLES:
            self.assertIs(is_whole(thing), True)

    def test_no_whole_numbers(self):
        for thing in NO_WHOLES:
            self.assertIs(is_whole(thing), False)

    def test_fractions(self):
        for thing in SOME:
            self.assertIs(is_fraction(thing), True, thing)

    def test_no_fractions(self):
        for place, thing in enumerate(NO_FRACTIONS):
            with self.subTest(place=place):
                self.assertIs(is_fraction(thing), False)

    def test_every_small_pair(self):
        for top in range(-12, 13):
            for bottom in range(-12, 13):
                lowest = bottom > 0 and pair(Fraction(top, bottom)) == (top, bottom)
                self.assertIs(is_fraction((top, bottom)), lowest, (top, bottom))

    def test_by_name(self):
        self.assertIs(is_whole(thing=3), True)
        self.assertIs(is_fraction(thing=(1, 3)), True)


class Making(unittest.TestCase):
    def test_of_two_whole_numbers(self):
        for top in WHOLES:
            for bottom in WHOLES:
                if bottom != 0:
                    made = fraction(top, bottom)
                    self.assertEqual(made, pair(Fraction(top, bottom)))
                    self.assertIs(is_fraction(made), True)

    def test_by_hand(self):
        self.assertEqual(fraction(6, 4), (3, 2))
        self.assertEqual(fraction(6, -4), (-3, 2))
        self.assertEqual(fraction(-6, -4), (3, 2))
        self.assertEqual(fraction(0, -9), (0, 1))

    def test_the_second_left_out(self):
        for top in WHOLES:
            self.assertEqual(fraction(top), (top, 1))

    def test_by_names(self):
        self.assertEqual(fraction(bottom=4, top=2), (1, 2))
        self.assertEqual(fraction(top=4), (4, 1))

    def test_a_bottom_of_nought(self):
        for top in WHOLES:
            with self.assertRaises(NoNumber):
                fraction(top, 0)

    def test_things_of_other_kinds(self):
        for thing in NO_WHOLES:
            for handed in ((thing, 1), (1, thing), (thing, thing), (thing, 0), (0, thing), (thing,)):
                with self.assertRaises(NoNumber):
                    fraction(*handed)


class Reckoning(unittest.TestCase):
    def test_by_hand(self):
        self.assertEqual(plus((1, 6), (1, 3)), (1, 2))
        self.assertEqual(minus((1, 6), (2, 3)), (-1, 2))
        self.assertEqual(times((2, 3), (-3, 4)), (-1, 2))
        self.assertEqual(over((2, 3), (-4, 9)), (-3, 2))
        self.assertEqual(apart((1, 6), (2, 3)), (1, 2))
        self.assertEqual(apart((2, 3), (1, 6)), (1, 2))
        self.assertIs(under((1, 3), (1, 2)), True)
        self.assertIs(under((1, 2), (1, 2)), False)
        self.assertIs(under((1, 2), (1, 3)), False)
        self.assertIs(under((-1, 2), (-1, 3)), True)

    def test_every_two(self):
        for one in SOME:
            for other in SOME:
                first, second = number_of(one), number_of(other)
                self.assertEqual(plus(one, other), pair(first + second))
                self.assertEqual(minus(one, other), pair(first - second))
                self.assertEqual(times(one, other), pair(first * second))
                self.assertEqual(apart(one, other), pair(abs(first - second)))
                self.assertIs(under(one, other), first < second)
                if second != 0:
                    self.assertEqual(over(one, other), pair(first / second))

    def test_divided_by_nought(self):
        for one in SOME:
            with self.assertRaises(NoDivisor):
                over(one, (0, 1))

    def test_by_names(self):
        self.assertEqual(plus(other=(1, 2), one=(1, 3)), (5, 6))
        self.assertEqual(minus(other=(1, 2), one=(1, 3)), (-1, 6))
        self.assertEqual(times(other=(1, 2), one=(1, 3)), (1, 6))
        self.assertEqual(over(other=(1, 2), one=(1, 3)), (2, 3))
        self.assertEqual(apart(other=(1, 2), one=(1, 3)), (1, 6))
        self.assertIs(under(other=(1, 2), one=(1, 3)), True)


class Totals(unittest.TestCase):
    def test_of_nothing(self):
        self.assertEqual(total([]), (0, 1))
        self.assertEqual(total([], None), (0, 1))
        self.assertEqual(total([], (-2, 3)), (-2, 3))

    def test_of_some(self):
        for many in range(len(SOME) + 1):
            some = SOME[:many]
            reckoned = sum([number_of(each) for each in some], Fraction(0))
            self.assertEqual(total(some), pair(reckoned))
            self.assertEqual(total(some, None), pair(reckoned))
            self.assertEqual(total(some, (-5, 7)), pair(reckoned + Fraction(-5, 7)))

    def test_of_a_long_list_in_good_time(self):
        some = [(1, bottom) for bottom in range(1, 2001)]
        told = check_in_good_time(self, lambda: total(some, (-1, 1)))
        self.assertEqual(told, pair(sum([Fraction(1, bottom) for bottom in range(2, 2001)], Fraction(0))))

    def test_by_names(self):
        self.assertEqual(total(start=(1, 2), some=[(1, 3), (1, 6)]), (1, 1))
        self.assertEqual(total(some=[(1, 3), (1, 6)]), (1, 2))

    def test_the_list_stays_as_it_was(self):
        check_left_alone(self, total, [(1, 3), (-1, 6), (0, 1)], (1, 2))
        some = [(1, 3), (1, 6)]
        self.assertEqual([total(some), total(some)], [(1, 2), (1, 2)])


if __name__ == "__main__":
    unittest.main()
