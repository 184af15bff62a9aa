"""Point 10, as far as neartwins.cheapest goes: the cheapest carrying, and what shows that it is so."""

import itertools
import random
import unittest
from fractions import Fraction

from neartwins.carryings import has_corners
from neartwins.cheapest import cheapest, lets_cheapest
from neartwins.errors import NoShares, NoTable
from tests.things import (
    NO_FRACTIONS, NO_LISTS, changed_at, check_in_good_time, check_left_alone, check_own_lists, earned_by, even_table,
    least_cost, number_of, pair, random_shares, unlike_lengths, with_each_place,
)

LONG = 10 ** 59
ONES = [(1, 2), (1, 2), (0, 1)]
OTHERS = [(0, 1), (1, 4), (3, 4)]
LINE = [[(0, 1), (1, 2), (1, 1)], [(1, 2), (0, 1), (1, 2)], [(1, 1), (1, 2), (0, 1)]]
BENT = [[(0, 1), (1, 4), (1, 1)], [(1, 4), (0, 1), (1, 4)], [(1, 1), (1, 4), (0, 1)]]
CARRYING = [[(0, 1), (1, 4), (1, 4)], [(0, 1), (0, 1), (1, 2)], [(0, 1), (0, 1), (0, 1)]]
TOLD = ((5, 8), CARRYING, [(1, 1), (1, 2), (0, 1)])


def random_table(source, many, greatest):
    """A table with corners, with great and unlike bottoms: any gaps, made shorter by ways of third places."""
    places = range(many)
    gaps = [[Fraction(0)] * many for place in places]
    for one, other in itertools.combinations(places, 2):
        bottom = source.randint(1, greatest)
        gaps[one][other] = gaps[other][one] = Fraction(source.randint(0, bottom), bottom)
    for third, one, other in itertools.product(places, repeat=3):
        gaps[one][other] = min(gaps[one][other], gaps[one][third] + gaps[third][other])
    return [[pair(gap) for gap in row] for row in gaps]


def long_shares(source, many):
    """Shares with great and unlike bottoms."""
    cuts = sorted([Fraction(source.randint(0, LONG), source.randint(LONG, 2 * LONG)) % 1 for cut in range(many - 1)])
    cuts = [Fraction(0)] + cuts + [Fraction(1)]
    shares = [pair(later - former) for former, later in zip(cuts, cuts[1:])]
    source.shuffle(shares)
    return shares


def by_all_paths(ones, others, table):
    """The least cost for shares with the same small bottom: each part onto each, tried one by one."""
    bottom = max(bottom for top, bottom in ones + others)
    parts = [place for place, one in enumerate(ones) for part in range(int(number_of(one) * bottom))]
    wanted = [place for place, other in enumerate(others) for part in range(int(number_of(other) * bottom))]
    return min(
        sum(number_of(table[part][to]) for part, to in zip(parts, order)) / bottom
        for order in set(itertools.permutations(wanted))
    )


class Cheapest(unittest.TestCase):
    def test_by_hand(self):
        self.assertEqual(cheapest([(1, 1)], [(1, 1)], [[(0, 1)]]), ((0, 1), [[(1, 1)]], [(0, 1)]))
        self.assertEqual(least_cost(self, ONES, OTHERS, LINE, cheapest(ONES, OTHERS, LINE)), Fraction(5, 8))
        halves, first = [(1, 2), (1, 2)], [(1, 1), (0, 1)]
        third = even_table(2, (1, 3))
        self.assertEqual(least_cost(self, halves, first, third, cheapest(halves, first, third)), Fraction(1, 6))
        self.assertEqual(cheapest(halves, first, third)[1:], ([[(1, 2), (0, 1)], [(1, 2), (0, 1)]], [(0, 1), (1, 3)]))

    def test_a_taker_is_left_to_another_giver(self):
        # The nearest taker of place 0 must be left to place 1, which is far from all else.
        table = [
            [(0, 1), (1, 2), (1, 10), (2, 10)], [(1, 2), (0, 1), (4, 10), (7, 10)],
            [(1, 10), (4, 10), (0, 1), (3, 10)], [(2, 10), (7, 10), (3, 10), (0, 1)],
        ]
        table = [[pair(number_of(gap)) for gap in row] for row in table]
        ones = [(1, 2), (1, 2), (0, 1), (0, 1)]
        others = [(0, 1), (0, 1), (1, 2), (1, 2)]
        self.assertTrue(has_corners(table))
        self.assertEqual(least_cost(self, ones, others, table, cheapest(ones, others, table)), Fraction(3, 10))

    def test_takers_are_left_to_other_givers_all_along_a_chain(self):
        # Places 1 and 2 give to 3 and 4 first; what 0 gives is cheapest where both of them go on by one taker each.
        gaps = [[6, 10, 10], [5, 6, 10], [10, 5, 6]]
        table = even_table(6, (1, 1))
        for giver, row in enumerate(gaps):
            for taker, tenths in enumerate(row):
                table = changed_at(table, giver, 3 + taker, pair(Fraction(tenths, 10)))
        self.assertTrue(has_corners(table))
        for given, taken, least in (
            ([1, 1, 1], [1, 1, 1], 18), ([5, 4, 3], [4, 3, 5], 79), ([5, 3, 4], [3, 4, 5], 79),
            ([2, 5, 5], [5, 5, 2], 66),
        ):
            parts = sum(given)
            ones = [pair(Fraction(part, parts)) for part in given] + [(0, 1)] * 3
            others = [(0, 1)] * 3 + [pair(Fraction(part, parts)) for part in taken]
            told = cheapest(ones, others, table)
            self.assertEqual(least_cost(self, ones, others, table, told), Fraction(least, 10 * parts))

    def test_every_small_case_by_all_ways(self):
        source = random.Random(1)
        for often in range(60):
            many = source.randint(2, 6)
            table = random_table(source, many, 12)
            ones, others = [
                [pair(Fraction(parts.count(place), 5)) for place in range(many)]
                for parts in ([source.randrange(many) for part in range(5)] for side in range(2))
            ]
            least = least_cost(self, ones, others, table, cheapest(ones, others, table))
            if max(bottom for top, bottom in ones + others) == 5:
                self.assertEqual(least, by_all_paths(ones, others, table))

    def test_many_places_and_great_bottoms(self):
        source = random.Random(2)
        for many in range(1, 7):
            for often in range(25):
                table = random_table(source, many, source.choice([1, 2, 9, 1000, LONG]))
                sides = [
                    source.choice([
                        random_shares(source, many, source.choice([1, 2, 7, 60, 997])), long_shares(source, many),
                    ])
                    for side in range(2)
                ]
                told = check_in_good_time(self, lambda: cheapest(sides[0], sides[1], table))
                least_cost(self, sides[0], sides[1], table, told)
                self.assertIs(lets_cheapest(sides[0], sides[1], table, told), True)

    def test_tables_of_noughts_and_of_ones(self):
        source = random.Random(3)
        for many in range(1, 7):
            for often in range(10):
                ones, others = long_shares(source, many), random_shares(source, many, 30)
                noughts, full = even_table(many, (0, 1)), even_table(many, (1, 1))
                self.assertEqual(least_cost(self, ones, others, noughts, cheapest(ones, others, noughts)), 0)
                moved = sum([abs(number_of(one) - number_of(other)) for one, other in zip(ones, others)], Fraction(0))
                self.assertEqual(least_cost(self, ones, others, full, cheapest(ones, others, full)), moved / 2)

    def test_the_same_shares_both_times(self):
        source = random.Random(4)
        for many in range(1, 7):
            shares = long_shares(source, many)
            for table in (even_table(many, (1, 1)), even_table(many, (0, 1)), random_table(source, many, 50)):
                for others in (shares, list(shares)):
                    self.assertEqual(least_cost(self, shares, others, table, cheapest(shares, others, table)), 0)

    def test_as_cheap_the_other_way_about(self):
        source = random.Random(5)
        for often in range(20):
            table = random_table(source, 6, 100)
            ones, others = long_shares(source, 6), long_shares(source, 6)
            self.assertEqual(cheapest(ones, others, table)[0], cheapest(others, ones, table)[0])

    def test_no_shares(self):
        wrong = NO_LISTS + [
            [], [(0, 1)], [(1, 2), (1, 2), (1, 2)], [(3, 2), (-1, 2), (0, 1)], tuple(ONES), [(1, 7)] * 7,
            [(1, 2), (2, 4)],
        ]
        wrong += [changed for place, thing, changed in with_each_place(ONES, NO_FRACTIONS)]
        for thing in wrong:
            for table in (LINE, BENT, None, []):
                with self.assertRaises(NoShares):
                    cheapest(thing, OTHERS, table)
                with self.assertRaises(NoShares):
                    cheapest(ONES, thing, table)

    def test_unlike_lengths(self):
        for one, other in itertools.permutations(range(1, 8), 2):
            for table in (even_table(one, (1, 1)), even_table(other, (1, 1)), None):
                with self.assertRaises(NoShares):
                    cheapest([(1, one)] * one, [(1, other)] * other, table)

    def test_no_table(self):
        wrong = NO_LISTS + unlike_lengths(LINE) + [tuple(LINE), [tuple(row) for row in LINE], BENT]
        wrong += [even_table(2, (1, 1)), even_table(4, (1, 1)), even_table(3, (2, 1)), even_table(3, (-1, 2))]
        wrong += [changed for place, thing, changed in with_each_place(LINE, NO_LISTS)]
        for place, row in enumerate(LINE):
            for at, thing, changed in with_each_place(row, NO_FRACTIONS + [(1, 5)]):
                wrong.append(LINE[:place] + [changed] + LINE[place + 1:])
        for thing in wrong:
            with self.assertRaises(NoTable):
                cheapest(ONES, OTHERS, thing)

    def test_corners_just_and_just_not(self):
        for far, has in (((1, 2), True), ((LONG, 2 * LONG - 1), False)):
            table = [[(0, 1), (1, 4), far], [(1, 4), (0, 1), (1, 4)], [far, (1, 4), (0, 1)]]
            if has:
                least_cost(self, ONES, OTHERS, table, cheapest(ONES, OTHERS, table))
            else:
                self.assertRaises(NoTable, cheapest, ONES, OTHERS, table)

    def test_own_lists(self):
        check_own_lists(self, lambda: cheapest(ONES, OTHERS, LINE))
        check_own_lists(self, lambda: cheapest(ONES, ONES, LINE))
        check_own_lists(self, lambda: cheapest([(1, 6)] * 6, [(1, 1)] + [(0, 1)] * 5, even_table(6, (0, 1))))
        check_left_alone(self, cheapest, ONES, OTHERS, LINE)
        check_left_alone(self, cheapest, ONES, OTHERS, BENT)
        check_left_alone(self, cheapest, ONES, OTHERS[:2], LINE)

    def test_by_names(self):
        self.assertEqual(cheapest(table=LINE, others=OTHERS, ones=ONES), cheapest(ONES, OTHERS, LINE))


class LetsCheapest(unittest.TestCase):
    def lets(self, thing, table=None):
        """What is told of this thing."""
        return lets_cheapest(ONES, OTHERS, LINE if table is None else table, thing)

    def test_by_hand(self):
        self.assertIs(self.lets(TOLD), True)
        self.assertIs(lets_cheapest([(1, 1)], [(1, 1)], [[(0, 1)]], ((0, 1), [[(1, 1)]], [(-7, 3)])), True)

    def test_another_carrying_and_any_prices(self):
        other = [[(0, 1), (0, 1), (1, 2)], [(0, 1), (1, 4), (1, 4)], [(0, 1), (0, 1), (0, 1)]]
        self.assertIs(self.lets(((5, 8), other, TOLD[2])), True)
        for move in (Fraction(-1), Fraction(1, 3), Fraction(LONG, 7), Fraction(-LONG)):
            self.assertIs(self.lets(((5, 8), CARRYING, [pair(number_of(each) + move) for each in TOLD[2]])), True)

    def test_a_table_without_corners(self):
        by_way = [[(0, 1), (1, 2), (0, 1)], [(0, 1), (-1, 4), (3, 4)], [(0, 1), (0, 1), (0, 1)]]
        self.assertIs(self.lets(((5, 16), by_way, [(1, 2), (1, 4), (0, 1)]), BENT), False)
        ones, others = [(1, 2), (1, 2), (0, 1)], [(0, 1), (1, 2), (1, 2)]
        carrying = [[(0, 1), (1, 2), (0, 1)], [(0, 1), (0, 1), (1, 2)], [(0, 1), (0, 1), (0, 1)]]
        thing = ((1, 4), carrying, [(1, 2), (1, 4), (0, 1)])
        self.assertIs(lets_cheapest(ones, others, BENT, thing), True)
        stays = [[(0, 1), (0, 1), (1, 2)], [(0, 1), (1, 2), (0, 1)], [(0, 1), (0, 1), (0, 1)]]
        self.assertIs(lets_cheapest(ones, others, BENT, ((1, 2), stays, [(1, 1), (1, 2), (0, 1)])), False)
        self.assertIs(lets_cheapest(ones, others, BENT, ((1, 4), stays, [(1, 2), (1, 4), (0, 1)])), False)

    def test_a_carrying_that_is_too_dear(self):
        dear = [[(0, 1), (0, 1), (1, 2)], [(0, 1), (1, 4), (1, 4)], [(0, 1), (0, 1), (0, 1)]]
        table = [[(0, 1), (1, 2), (1, 1)], [(1, 2), (0, 1), (3, 4)], [(1, 1), (3, 4), (0, 1)]]
        told = cheapest(ONES, OTHERS, table)
        least = least_cost(self, ONES, OTHERS, table, told)
        self.assertEqual(least, Fraction(11, 16))
        self.assertIs(self.lets((told[0], dear, told[2]), table), True)
        dear = [[(0, 1), (1, 4), (1, 4)], [(0, 1), (0, 1), (1, 2)], [(0, 1), (0, 1), (0, 1)]]
        self.assertIs(self.lets((told[0], dear, told[2]), table), False)
        self.assertIs(self.lets(((3, 4), dear, told[2]), table), False)

    def test_prices_that_earn_too_little_or_are_none(self):
        for prices in (
            [(1, 1), (1, 2), (1, LONG)], [(1, 1), (1, 1), (1, 1)], [(0, 1), (1, 2), (1, 1)], [(5, 4), (1, 2), (0, 1)],
            [(1, 1), (1, 2), (-1, LONG)],
        ):
            self.assertIs(self.lets(((5, 8), CARRYING, prices)), False)
            self.assertIs(self.lets((pair(earned_by(ONES, OTHERS, prices)), CARRYING, prices)), False)

    def test_another_cost(self):
        near_by = [(4, 8), (10, 16), (-5, 8), (5, 9), (LONG * 5 + 1, LONG * 8), (0, 1), (1, 1), (8, 5)]
        for told in NO_FRACTIONS + near_by:
            self.assertIs(self.lets((told, CARRYING, TOLD[2])), False)

    def test_a_cost_of_one_is_no_truth(self):
        first, last = [(1, 1), (0, 1)], [(0, 1), (1, 1)]
        carrying = [[(0, 1), (1, 1)], [(0, 1), (0, 1)]]
        for told, lets in (((1, 1), True), ((True, 1), False), ((1, True), False), (True, False), (1, False)):
            self.assertIs(lets_cheapest(first, last, even_table(2, (1, 1)), (told, carrying, first)), lets)

    def test_anything(self):
        wrong = NO_LISTS + NO_FRACTIONS + [list(TOLD), TOLD[:2], TOLD + (1,), TOLD[::-1], (TOLD,), (TOLD, TOLD, TOLD)]
        wrong += [{0: TOLD[0], 1: TOLD[1], 2: TOLD[2]}, [TOLD], TOLD[1], TOLD[2]]
        for place in range(3):
            for thing in NO_LISTS + NO_FRACTIONS:
                wrong.append(TOLD[:place] + (thing,) + TOLD[place + 1:])
        for place, thing, changed in with_each_place(CARRYING, NO_LISTS):
            wrong.append((TOLD[0], changed, TOLD[2]))
        for place, thing, changed in with_each_place(TOLD[2], NO_FRACTIONS):
            wrong.append((TOLD[0], CARRYING, changed))
        for place, row in enumerate(CARRYING):
            for at, thing, changed in with_each_place(row, NO_FRACTIONS):
                wrong.append((TOLD[0], CARRYING[:place] + [changed] + CARRYING[place + 1:], TOLD[2]))
        wrong += [(TOLD[0], thing, TOLD[2]) for thing in unlike_lengths(CARRYING) + [tuple(CARRYING)]]
        wrong += [(TOLD[0], CARRYING, thing) for thing in unlike_lengths(TOLD[2]) + [tuple(TOLD[2])]]
        for at, thing in enumerate(wrong):
            with self.subTest(at=at):
                self.assertIs(self.lets(thing), False)

    def test_left_alone_and_by_names(self):
        check_left_alone(self, lets_cheapest, ONES, OTHERS, LINE, TOLD)
        self.assertIs(lets_cheapest(thing=TOLD, table=LINE, others=OTHERS, ones=ONES), True)


if __name__ == "__main__":
    unittest.main()
