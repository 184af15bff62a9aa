"""Points 9 and 10, as far as neartwins.carryings goes: shares, tables, carryings, prices."""

import itertools
import unittest
from fractions import Fraction

from neartwins.carryings import are_prices, are_shares, cost, earned, has_corners, is_carrying, is_table
from neartwins.fractions import under
from tests.things import (
    NO_FRACTIONS, NO_LISTS, check_left_alone, number_of, pair, unlike_lengths, with_each_place,
)

LONG = 10 ** 59
SHARES = [
    [(1, 1)],
    [(0, 1), (1, 1)],
    [(1, 2), (1, 3), (1, 6)],
    [(1, LONG), (LONG - 1, LONG)],
    [(1, 1000), (0, 1), (999, 1000), (0, 1), (0, 1)],
    [(1, 6)] * 6,
]
TABLES = [
    [[(0, 1)]],
    [[(0, 1), (1, 1)], [(1, 1), (0, 1)]],
    [[(0, 1), (0, 1)], [(0, 1), (0, 1)]],
    [[(0, 1), (1, 2), (1, 1)], [(1, 2), (0, 1), (1, 2)], [(1, 1), (1, 2), (0, 1)]],
    [[(0, 1), (1, 4), (1, 1)], [(1, 4), (0, 1), (1, 4)], [(1, 1), (1, 4), (0, 1)]],
    [[(0, 1) if one == other else (1, LONG + one + other) for other in range(6)] for one in range(6)],
]
ONES = [(1, 2), (1, 2), (0, 1)]
OTHERS = [(0, 1), (1, 4), (3, 4)]
CARRYING = [
    [(0, 1), (1, 4), (1, 4)],
    [(0, 1), (0, 1), (1, 2)],
    [(0, 1), (0, 1), (0, 1)],
]


def with_each_item(square, wrong_things):
    """Squares like this one, but with one wrong thing in the stead of one item."""
    for row in range(len(square)):
        for at, wrong, changed in with_each_place(square[row], wrong_things):
            yield square[:row] + [changed] + square[row + 1:]


def turned(square):
    """Rows made columns."""
    return [[row[place] for row in square] for place in range(len(square))]


def wrong_squares(square):
    """Things that are no list of as many lists of as many things as this square."""
    wrong = NO_LISTS + unlike_lengths(square) + [tuple(square), dict(enumerate(square)), [tuple(row) for row in square]]
    wrong += [changed for place, thing, changed in with_each_place(square, NO_LISTS)]
    for place, row in enumerate(square):
        for other in unlike_lengths(row) + [row + [(0, 1)], tuple(row), dict(enumerate(row))]:
            wrong.append(square[:place] + [other] + square[place + 1:])
    return wrong + list(with_each_item(square, NO_FRACTIONS))


class Shares(unittest.TestCase):
    def test_shares(self):
        for shares in SHARES:
            self.assertIs(are_shares(shares), True)

    def test_no_shares(self):
        wrong = NO_LISTS + [
            [], [(0, 1)], [(1, 2)], [(2, 1)], [(2, 1), (-1, 1)], [(3, 2), (-1, 2)], [(1, 2), (1, 3), (1, 7)],
            [(1, 7)] * 7, [(1, 1)] + [(0, 1)] * 6, [(1, 2), (2, 4)], ((1, 1),), ((1, 2), (1, 2)), {0: (1, 1)}, [[(1, 1)]],
            [(1, 2), (1, 2), (-1, 2), (1, 2)], [(1, 1), (1, 1)], [1], [True], [(1, LONG), (LONG - 1, LONG + 1)],
        ]
        for shares in SHARES:
            wrong += [changed for place, thing, changed in with_each_place(shares, NO_FRACTIONS)]
        for place, thing in enumerate(wrong):
            with self.subTest(place=place):
                self.assertIs(are_shares(thing), False)

    def test_every_length(self):
        for many in range(1, 10):
            self.assertIs(are_shares([(1, many)] * many), many <= 6)

    def test_by_name(self):
        self.assertIs(are_shares(thing=[(1, 1)]), True)


class Tables(unittest.TestCase):
    def test_tables(self):
        for table in TABLES:
            self.assertIs(is_table(len(table), table), True)

    def test_for_another_number_of_places(self):
        for table in TABLES:
            for many in range(1, 7):
                self.assertIs(is_table(many, table), many == len(table))

    def test_wrong_forms_and_kinds(self):
        for table in TABLES:
            for place, thing in enumerate(wrong_squares(table)):
                with self.subTest(place=place):
                    self.assertIs(is_table(len(table), thing), False)

    def test_fractions_beyond(self):
        for table in TABLES:
            for beyond in [(-1, 2), (-1, LONG), (2, 1), (3, 2), (LONG + 1, LONG), (LONG, 1)]:
                for one in range(len(table)):
                    for other in range(len(table)):
                        changed = [list(row) for row in table]
                        changed[one][other] = beyond
                        changed[other][one] = beyond
                        self.assertIs(is_table(len(table), changed), False)

    def test_a_place_and_itself(self):
        for table in TABLES:
            for place in range(len(table)):
                for fraction in [(1, 2), (1, 1), (1, LONG)]:
                    changed = [list(row) for row in table]
                    changed[place][place] = fraction
                    self.assertIs(is_table(len(table), changed), False)

    def test_not_the_same_both_ways(self):
        for table in TABLES:
            for one, other in itertools.permutations(range(len(table)), 2):
                changed = [list(row) for row in table]
                changed[one][other] = (1, 3)
                self.assertIs(is_table(len(table), changed), False)

    def test_by_names(self):
        self.assertIs(is_table(thing=[[(0, 1)]], many=1), True)


class Corners(unittest.TestCase):
    def test_by_hand(self):
        self.assertEqual([has_corners(table) for table in TABLES], [True, True, True, True, False, True])

    def test_just_as_great_and_a_little_greater(self):
        for far, has in (((1, 2), True), ((LONG, 2 * LONG - 1), False), ((1, 3), True)):
            table = [[(0, 1), (1, 4), far], [(1, 4), (0, 1), (1, 4)], [far, (1, 4), (0, 1)]]
            self.assertIs(is_table(3, table), True)
            self.assertIs(has_corners(table), has)

    def test_every_table_of_few_fractions(self):
        gaps = [(0, 1), (1, 3), (1, 2), (1, 1)]
        for near, middle, far in itertools.product(gaps, repeat=3):
            table = [[(0, 1), near, far], [near, (0, 1), middle], [far, middle, (0, 1)]]
            sides = sorted([number_of(near), number_of(middle), number_of(far)])
            self.assertIs(has_corners(table), sides[2] <= sides[0] + sides[1])

    def test_one_long_side_of_six_places(self):
        for one, other in itertools.combinations(range(6), 2):
            table = [[(0, 1) if row == at else (1, 4) for at in range(6)] for row in range(6)]
            self.assertIs(has_corners(table), True)
            table[one][other] = table[other][one] = (3, 4)
            self.assertIs(has_corners(table), False)

    def test_by_name(self):
        self.assertIs(has_corners(table=[[(0, 1)]]), True)


class Carryings(unittest.TestCase):
    def test_carryings(self):
        self.assertIs(is_carrying([(1, 1)], [(1, 1)], [[(1, 1)]]), True)
        self.assertIs(is_carrying(ONES, OTHERS, CARRYING), True)
        self.assertIs(is_carrying(OTHERS, ONES, turned(CARRYING)), True)
        halves = [(1, 2), (1, 2)]
        self.assertIs(is_carrying(halves, halves, [[(1, 2), (0, 1)], [(0, 1), (1, 2)]]), True)
        self.assertIs(is_carrying(halves, halves, [[(1, 4), (1, 4)], [(1, 4), (1, 4)]]), True)
        even = [(1, 6)] * 6
        self.assertIs(is_carrying(even, even, [[(1, 36)] * 6] * 6), True)

    def test_each_share_times_each(self):
        for ones in SHARES:
            for others in SHARES:
                if len(ones) == len(others):
                    mixed = [[pair(number_of(one) * number_of(other)) for other in others] for one in ones]
                    self.assertIs(is_carrying(ones, others, mixed), True)

    def test_only_one_side_comes_out(self):
        self.assertIs(is_carrying(OTHERS, ONES, CARRYING), False)
        self.assertIs(is_carrying(ONES, OTHERS, turned(CARRYING)), False)
        self.assertIs(is_carrying(ONES, ONES, CARRYING), False)
        self.assertIs(is_carrying(OTHERS, OTHERS, CARRYING), False)

    def test_less_than_nought_is_carried(self):
        halves = [(1, 2), (1, 2)]
        self.assertIs(is_carrying(halves, halves, [[(-1, 2), (1, 1)], [(1, 1), (-1, 2)]]), False)
        self.assertIs(is_carrying(halves, halves, [[(1, 1), (-1, 2)], [(-1, 2), (1, 1)]]), False)

    def test_unlike_sums(self):
        for row in range(3):
            for place in range(3):
                changed = [list(each) for each in CARRYING]
                changed[row][place] = (1, 5)
                self.assertIs(is_carrying(ONES, OTHERS, changed), False)

    def test_wrong_forms_and_kinds(self):
        for ones, others, carrying in ((ONES, OTHERS, CARRYING), ([(1, 1)], [(1, 1)], [[(1, 1)]])):
            for place, thing in enumerate(wrong_squares(carrying)):
                with self.subTest(place=place):
                    self.assertIs(is_carrying(ones, others, thing), False)

    def test_by_names(self):
        self.assertIs(is_carrying(thing=CARRYING, others=OTHERS, ones=ONES), True)


class Cost(unittest.TestCase):
    def test_by_hand(self):
        self.assertEqual(cost([[(0, 1)]], [[(1, 1)]]), (0, 1))
        self.assertEqual(cost(TABLES[3], CARRYING), (5, 8))
        self.assertEqual(cost(TABLES[4], CARRYING), (7, 16))
        self.assertEqual(cost(TABLES[1], [[(1, 4), (1, 4)], [(1, 8), (3, 8)]]), (3, 8))

    def test_each_way_costs_its_own(self):
        many = 4
        table = [[(0, 1) if one == other else (1, one + other + 1) for other in range(many)] for one in range(many)]
        for one in range(many):
            for other in range(many):
                carrying = [[(0, 1)] * many for place in range(many)]
                carrying[one][other] = (1, 1)
                self.assertEqual(cost(table, carrying), table[one][other])

    def test_by_names(self):
        self.assertEqual(cost(carrying=CARRYING, table=TABLES[3]), (5, 8))


class Prices(unittest.TestCase):
    def test_prices(self):
        self.assertIs(are_prices([[(0, 1)]], [(7, 3)]), True)
        self.assertIs(are_prices(TABLES[3], [(0, 1), (1, 2), (1, 1)]), True)
        self.assertIs(are_prices(TABLES[3], [(1, 1), (1, 2), (0, 1)]), True)
        self.assertIs(are_prices(TABLES[3], [(-1, 3), (-1, 3), (-1, 3)]), True)
        self.assertIs(are_prices(TABLES[3], [(-9, 2), (-4, 1), (-7, 2)]), True)
        self.assertIs(are_prices(TABLES[2], [(LONG, 7), (LONG, 7)]), True)

    def test_too_far_apart(self):
        self.assertIs(are_prices(TABLES[3], [(0, 1), (2, 3), (1, 1)]), False)
        self.assertIs(are_prices(TABLES[3], [(1, 1), (1, 3), (0, 1)]), False)
        self.assertIs(are_prices(TABLES[3], [(0, 1), (1, 2), (LONG + 1, LONG)]), False)
        self.assertIs(are_prices(TABLES[2], [(0, 1), (1, LONG)]), False)

    def test_a_table_without_corners(self):
        self.assertIs(are_prices(TABLES[4], [(0, 1), (1, 4), (1, 2)]), True)
        self.assertIs(are_prices(TABLES[4], [(0, 1), (1, 2), (1, 1)]), False)

    def test_every_pair_is_looked_at(self):
        for one, other in itertools.permutations(range(6), 2):
            table = [[(0, 1) if row == at else (1, 1) for at in range(6)] for row in range(6)]
            prices = [(1, 2)] * 6
            prices[one], prices[other] = (0, 1), (1, 1)
            self.assertIs(are_prices(table, prices), True)
            table[one][other] = table[other][one] = (99, 100)
            self.assertIs(are_prices(table, prices), False)

    def test_wrong_forms_and_kinds(self):
        for table, prices in ((TABLES[3], [(0, 1), (1, 2), (1, 1)]), ([[(0, 1)]], [(0, 1)]), (TABLES[5], [(1, 2)] * 6)):
            self.assertIs(are_prices(table, prices), True)
            wrong = NO_LISTS + unlike_lengths(prices) + [tuple(prices), dict(enumerate(prices)), [prices]]
            wrong += [changed for place, thing, changed in with_each_place(prices, NO_FRACTIONS)]
            for place, thing in enumerate(wrong):
                with self.subTest(place=place):
                    self.assertIs(are_prices(table, thing), False)

    def test_by_names(self):
        self.assertIs(are_prices(thing=[(1, 2)], table=[[(0, 1)]]), True)


class Earned(unittest.TestCase):
    def test_by_hand(self):
        self.assertEqual(earned([(1, 1)], [(1, 1)], [(5, 1)]), (0, 1))
        self.assertEqual(earned([(1, 2), (1, 2)], [(1, 4), (3, 4)], [(1, 1), (0, 1)]), (1, 4))
        self.assertEqual(earned([(1, 4), (3, 4)], [(1, 2), (1, 2)], [(1, 1), (0, 1)]), (-1, 4))
        self.assertEqual(earned(ONES, OTHERS, [(1, 1), (1, 2), (0, 1)]), (5, 8))
        self.assertEqual(earned(ONES, OTHERS, [(-1, 3), (7, 1), (-5, 6)]), (53, 24))

    def test_whatever_is_earned_by_any_list(self):
        lists = [[(0, 1)] * 3, [(LONG, 3), (-LONG, 7), (1, LONG)], [(3, 1), (-3, 1), (9, 4)], [(1, 7)] * 3]
        for prices in lists:
            reckoned = sum(
                [number_of(price) * (number_of(one) - number_of(other)) for one, other, price in zip(ONES, OTHERS, prices)],
                Fraction(0),
            )
            self.assertEqual(earned(ONES, OTHERS, prices), pair(reckoned))

    def test_no_carrying_costs_less_than_prices_earn(self):
        steps = [(0, 1), (1, 4), (1, 2), (3, 4), (1, 1)]
        met = 0
        for table in (TABLES[3], TABLES[4]):
            for prices in itertools.product(steps, repeat=3):
                if are_prices(table, list(prices)):
                    met += 1
                    self.assertFalse(under(cost(table, CARRYING), earned(ONES, OTHERS, list(prices))))
        self.assertGreater(met, 20)
        self.assertEqual(earned(ONES, OTHERS, [(1, 1), (1, 2), (0, 1)]), cost(TABLES[3], CARRYING))

    def test_by_names(self):
        self.assertEqual(earned(prices=[(1, 1), (1, 2), (0, 1)], others=OTHERS, ones=ONES), (5, 8))


class LeftAlone(unittest.TestCase):
    def test_what_is_handed_in_stays_as_it_was(self):
        prices = [(1, 1), (1, 2), (0, 1)]
        for call, handed in (
            (are_shares, [ONES]), (are_shares, [[(1, 2), (2, 4)]]), (is_table, [3, TABLES[3]]), (is_table, [2, TABLES[3]]),
            (has_corners, [TABLES[3]]), (has_corners, [TABLES[4]]), (is_carrying, [ONES, OTHERS, CARRYING]),
            (is_carrying, [OTHERS, ONES, CARRYING]), (cost, [TABLES[3], CARRYING]), (are_prices, [TABLES[3], prices]),
            (are_prices, [TABLES[4], prices]), (earned, [ONES, OTHERS, prices]),
        ):
            check_left_alone(self, call, *handed)
            self.assertEqual(call(*handed), call(*handed))


if __name__ == "__main__":
    unittest.main()
