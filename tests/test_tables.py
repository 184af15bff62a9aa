"""Points 11 and 12: fades, the next table, and the tables by so many steps."""

import itertools
import random
import unittest
from fractions import Fraction

from neartwins.carryings import has_corners, is_table
from neartwins.cheapest import cheapest
from neartwins.errors import NoNumber, NoTable
from neartwins.tables import is_fade, next_table, tables_by
from tests.things import (
    FADES, NO_FADES, NO_FRACTIONS, NO_LISTS, NO_WHOLES, chain, check_fades, check_in_good_time, check_left_alone,
    check_no_machine, check_own_lists, coins, even_table, great_figures, lasting, least_cost, number_of, one_room,
    pair, random_machines, six_rooms, telling_machines, unlike_lengths, with_each_place, with_twins,
)

NO_STEPS = [-1, 9, 10, 12, 10 ** 59, -10 ** 59] + NO_WHOLES
BENT = [[(0, 1), (1, 4), (1, 1)], [(1, 4), (0, 1), (1, 4)], [(1, 1), (1, 4), (0, 1)]]


def random_corners(source, many):
    """A table with corners: how far points on some lines are apart, at most."""
    points = [[Fraction(source.randint(0, 90), 90) for line in range(3)] for place in range(many)]
    return [[pair(max(abs(a - b) for a, b in zip(one, other))) for other in points] for one in points]


def nowhere_less(greater, lesser):
    """Whether a table has nowhere less than another."""
    return all(
        number_of(one) >= number_of(other) for row, under in zip(greater, lesser) for one, other in zip(row, under)
    )


def check_next(test, machine, table, fade, told):
    """That a told table is the next one, by cheapest carryings of which it is shown that they are."""
    test.assertIs(is_table(len(machine), told), True)
    test.assertIs(has_corners(told), True)
    for one, other in itertools.product(range(len(machine)), repeat=2):
        ones, others = machine.shares_of(one), machine.shares_of(other)
        if one == other:
            test.assertEqual(told[one][other], (0, 1))
        elif machine.mark(one) != machine.mark(other):
            test.assertEqual(told[one][other], (1, 1))
        else:
            least = least_cost(test, ones, others, table, cheapest(ones, others, table))
            test.assertEqual(told[one][other], pair(number_of(fade) * least))


class Fades(unittest.TestCase):
    def test_fades(self):
        for fade in FADES + [(1, 998), (997, 998), (998, 999), (501, 998)]:
            self.assertIs(is_fade(fade), True)

    def test_no_fades(self):
        for place, thing in enumerate(NO_FADES + [None] + NO_LISTS):
            with self.subTest(place=place):
                self.assertIs(is_fade(thing), False)

    def test_by_name(self):
        self.assertIs(is_fade(thing=(1, 2)), True)


class NextTable(unittest.TestCase):
    def test_by_hand(self):
        machine = lasting()
        ones = even_table(len(machine), (1, 1))
        self.assertEqual(next_table(machine, ones, (1, 2))[0], [(0, 1), (1, 2), (1, 1)])
        noughts = even_table(len(machine), (0, 1))
        first = [[(0, 1), (0, 1), (1, 1)], [(0, 1), (0, 1), (1, 1)], [(1, 1), (1, 1), (0, 1)]]
        self.assertEqual(next_table(machine, noughts, (1, 2)), first)
        second = [[(0, 1), (1, 4), (1, 1)], [(1, 4), (0, 1), (1, 1)], [(1, 1), (1, 1), (0, 1)]]
        self.assertEqual(next_table(machine, first, (1, 2)), second)
        self.assertEqual(next_table(machine, second, (1, 2))[0][1], (5, 16))
        self.assertEqual(next_table(machine, first, (998, 999))[0][1], (499, 999))
        self.assertEqual(next_table(one_room(), [[(0, 1)]]), [[(0, 1)]])

    def test_unlike_marks_are_at_one_whatever_the_table_has(self):
        told = next_table(coins(), even_table(len(coins()), (0, 1)))
        self.assertEqual(told, [[(0, 1), (1, 1), (0, 1)], [(1, 1), (0, 1), (1, 1)], [(0, 1), (1, 1), (0, 1)]])

    def test_many_tables(self):
        source = random.Random(6)
        for machine in telling_machines() + random_machines(7, 12):
            many = len(machine)
            tables = [even_table(many, gap) for gap in ((0, 1), (1, 1), (2, 7))]
            for table in tables + [random_corners(source, many)]:
                for fade in FADES[:3]:
                    told = check_in_good_time(self, lambda: next_table(machine, table, fade))
                    check_next(self, machine, table, fade, told)

    def test_nowhere_less_of_a_table_with_nowhere_less(self):
        source = random.Random(8)
        for machine in telling_machines():
            table = random_corners(source, len(machine))
            greater = [
                [pair(min(2 * number_of(gap), Fraction(1))) for gap in row] for row in table
            ]
            self.assertIs(has_corners(greater), True)
            for fade in FADES:
                self.assertTrue(nowhere_less(next_table(machine, greater, fade), next_table(machine, table, fade)))

    def test_refusals_and_their_order(self):
        machine = coins()
        table = even_table(len(machine), (1, 1))
        check_no_machine(self, next_table, table, (1, 2))
        check_no_machine(self, next_table, None, 0)
        wrong = NO_LISTS + unlike_lengths(table) + [tuple(table), [tuple(row) for row in table], BENT]
        wrong += [even_table(len(machine), (2, 1)), even_table(len(machine), (-1, 2)), even_table(len(chain()), (1, 1))]
        wrong += [changed for place, thing, changed in with_each_place(table, NO_LISTS)]
        for place, row in enumerate(table):
            for at, thing, changed in with_each_place(row, NO_FRACTIONS + [(1, 5)]):
                wrong.append(table[:place] + [changed] + table[place + 1:])
        for thing in wrong:
            for fade in (None, (1, 3), (1, 1), "fade"):
                with self.assertRaises(NoTable):
                    next_table(machine, thing, fade)
        check_fades(self, lambda *fade, **named: next_table(machine, table, *fade, **named))

    def test_own_lists_and_names(self):
        for machine in telling_machines():
            table = even_table(len(machine), (1, 1))
            check_own_lists(self, lambda: next_table(machine, table))
            check_left_alone(self, next_table, machine, table, (1, 3))
        table = even_table(len(coins()), (1, 1))
        self.assertEqual(next_table(fade=(1, 3), table=table, machine=coins()), next_table(coins(), table, (1, 3)))


class TablesBy(unittest.TestCase):
    def test_by_hand(self):
        tables = tables_by(lasting(), 5)
        self.assertEqual([table[0][1] for table in tables], [(0, 1), (0, 1), (1, 4), (5, 16), (21, 64), (85, 256)])
        self.assertEqual([table[0][2] for table in tables], [(0, 1)] + [(1, 1)] * 5)
        self.assertEqual(tables_by(one_room(), 3), [[[(0, 1)]]] * 4)
        self.assertEqual([table[0][1] for table in tables_by(chain(), 6, (2, 3))], [(0, 1)] * 5 + [(16, 81)] * 2)

    def test_each_is_the_next_of_the_one_before(self):
        for machine in telling_machines():
            for fade in FADES[:3]:
                tables = check_in_good_time(self, lambda: tables_by(machine, 8, fade))
                self.assertEqual(len(tables), 9)
                self.assertEqual(tables[0], even_table(len(machine), (0, 1)))
                for former, later in zip(tables, tables[1:]):
                    self.assertEqual(later, next_table(machine, former, fade))
                    check_next(self, machine, former, fade, later)
                    self.assertTrue(nowhere_less(later, former))

    def test_so_many_steps(self):
        for machine in telling_machines():
            tables = tables_by(machine, 8, (2, 3))
            for steps in range(9):
                self.assertEqual(tables_by(machine, steps, (2, 3)), tables[:steps + 1])

    def test_refusals_and_their_order(self):
        check_no_machine(self, tables_by, 1, (1, 2))
        check_no_machine(self, tables_by, 9, 0)
        for steps in NO_STEPS:
            for fade in (None, (1, 3), (1, 1), "fade"):
                with self.assertRaises(NoNumber):
                    tables_by(coins(), steps, fade)
        for steps in (0, 3, 8):
            check_fades(self, lambda *fade, **named: tables_by(coins(), steps, *fade, **named))

    def test_own_lists_and_names(self):
        for machine in (one_room(), coins(), six_rooms(), with_twins(), great_figures()):
            for steps in (0, 1, 8):
                check_own_lists(self, lambda: tables_by(machine, steps))
            check_left_alone(self, tables_by, machine, 3, (1, 3))
        self.assertEqual(tables_by(fade=(1, 3), steps=2, machine=coins()), tables_by(coins(), 2, (1, 3)))


if __name__ == "__main__":
    unittest.main()
