"""Points 7 and 8: rows of marks."""

import itertools
import unittest
from fractions import Fraction

from neartwins.errors import NoNumber, NoRow, TooMany
from neartwins.fractions import total
from neartwins.machines import Machine
from neartwins.marks import all_rows, apart_by_rows, chance
from tests.things import (
    NO_LISTS, NO_MARKS, NO_WHOLES, all_walks, check_left_alone, check_no_machine, check_no_room, check_own_lists,
    coins, number_of, one_room, one_way, pair, sample_machines, six_rooms, spread_evenly, with_each_place,
)

# From rooms 0 and 1 there are so many rows of five marks.
ROWS_300_301 = [[2, 3, 5], [1, 3, 4, 5], [0, 1, 2, 3, 4, 5], [0, 1, 3, 5], [0, 3, 4], [0, 1, 2, 3, 4, 5]]
ROWS_301_213 = [[0, 1, 3, 4, 5], [1, 2, 5], [0, 1, 2, 4, 5], [1, 2, 4], [2, 3, 5], [0, 1, 3, 4, 5]]
ROWS_300_300 = [
    [2, 4, 5], [2, 3, 5], [0, 2, 4, 5], [0, 1, 2, 3, 4, 5], [0, 1, 2, 3, 4, 5], [0, 1, 2, 4, 5],
]
NO_MANY = [0, 6, 7, 8, -1, 10 ** 59] + NO_WHOLES


def rows_by_walks(machine, room, many):
    """The chance of each row, as a dict by tuples, from all walks."""
    found = {}
    for walk, each in all_walks(machine, room, many):
        row = tuple(machine.mark(at) for at in walk)
        found[row] = found.get(row, Fraction(0)) + each
    return found


def half_the_sum(ones, others):
    """Half the sum of how far chances are apart, over all rows of both."""
    rows = set(ones) | set(others)
    return sum([abs(ones.get(row, Fraction(0)) - others.get(row, Fraction(0))) for row in rows], Fraction(0)) / 2


def mixed_machine():
    """A machine whose rooms part late: some share marks, some go on with the same shares."""
    return Machine(
        ["a", "a", "b", "ab", "b"],
        [
            [(1, 2), (0, 1), (1, 4), (1, 4), (0, 1)],
            [(0, 1), (1, 2), (0, 1), (1, 4), (1, 4)],
            [(1, 3), (1, 3), (1, 3), (0, 1), (0, 1)],
            [(1, 5), (1, 5), (1, 5), (1, 5), (1, 5)],
            [(1, 3), (1, 3), (0, 1), (0, 1), (1, 3)],
        ],
    )


class Chance(unittest.TestCase):
    def test_by_hand(self):
        self.assertEqual(chance(coins(), 0, ["a"]), (1, 1))
        self.assertEqual(chance(coins(), 0, ["b"]), (0, 1))
        self.assertEqual(chance(coins(), 0, ["zzzz"]), (0, 1))
        self.assertEqual(chance(coins(), 0, ["a", "a"]), (1, 2))
        self.assertEqual(chance(coins(), 2, ["a", "a"]), (3, 4))
        self.assertEqual(chance(coins(), 0, ["a", "b", "a"]), (1, 3))
        self.assertEqual(chance(coins(), 1, ["b", "b", "b"]), (1, 9))
        self.assertEqual(chance(coins(), 1, ["a", "b", "b"]), (0, 1))
        self.assertEqual(chance(one_way(), 3, ["end", "end", "go"]), (998, 998001))
        self.assertEqual(chance(one_room(), 0, ["a"] * 8), (1, 1))
        self.assertEqual(chance(one_room(), 0, ["a"] * 7 + ["b"]), (0, 1))

    def test_every_row_by_walks(self):
        for machine in sample_machines() + [mixed_machine()]:
            marks = sorted(set(machine.marks())) + ["none"]
            for room in range(len(machine)):
                for many in (1, 2, 3):
                    reckoned = rows_by_walks(machine, room, many)
                    for row in itertools.product(marks, repeat=many):
                        self.assertEqual(chance(machine, room, list(row)), pair(reckoned.get(row, Fraction(0))))

    def test_rows_of_eight(self):
        for machine in (coins(), one_way()):
            for room in range(len(machine)):
                for row, each in rows_by_walks(machine, room, 8).items():
                    self.assertEqual(chance(machine, room, list(row)), pair(each))

    def test_wrong_rows(self):
        wrong = NO_LISTS + [[], ["a"] * 9, ["a"] * 10, ["a"] * 2000, ("a", "a"), [["a"]], "aa", [None], {"a": "a"}]
        wrong += [row for place, thing, row in with_each_place(["a", "b", "a"], NO_MARKS)]
        wrong += [row for place, thing, row in with_each_place(["a"] * 8, NO_MARKS)]
        for machine in sample_machines():
            for row in wrong:
                with self.assertRaises(NoRow):
                    chance(machine, 0, row)

    def test_refusals_and_their_order(self):
        check_no_machine(self, chance, 0, ["a"])
        check_no_machine(self, chance, -1, [])
        check_no_machine(self, chance, None, None)
        for machine in sample_machines():
            check_no_room(self, machine, lambda room: chance(machine, room, ["a"]))
            check_no_room(self, machine, lambda room: chance(machine, room, []))
            check_no_room(self, machine, lambda room: chance(machine, room, None))

    def test_by_names(self):
        self.assertEqual(chance(row=["a", "a"], room=2, machine=coins()), (3, 4))

    def test_what_is_handed_in_stays_as_it_was(self):
        machine, row = coins(), ["a", "b", "a"]
        check_left_alone(self, chance, machine, 0, row)
        check_left_alone(self, chance, machine, 0, ["a", "B"])
        self.assertEqual([chance(machine, 0, row), chance(machine, 0, row)], [(1, 3), (1, 3)])
        self.assertEqual(machine, coins())


class AllRows(unittest.TestCase):
    def test_by_hand(self):
        self.assertEqual(all_rows(coins(), 0, 1), [(["a"], (1, 1))])
        self.assertEqual(
            all_rows(coins(), 0, 3),
            [
                (["a", "a", "a"], (1, 4)),
                (["a", "a", "b"], (1, 4)),
                (["a", "b", "a"], (1, 3)),
                (["a", "b", "b"], (1, 6)),
            ],
        )
        self.assertEqual(all_rows(one_room(), 0, 5), [(["a"] * 5, (1, 1))])
        self.assertEqual(
            all_rows(one_way(), 0, 3), [(["go", "go", "stop"], (1, 2)), (["go", "stop", "stop"], (1, 2))],
        )

    def test_by_walks(self):
        for machine in sample_machines() + [mixed_machine()]:
            for room in range(len(machine)):
                for many in range(1, 6):
                    reckoned = rows_by_walks(machine, room, many)
                    expected = sorted([(list(row), pair(each)) for row, each in reckoned.items()])
                    self.assertEqual(all_rows(machine, room, many), expected)

    def test_together_they_are_all(self):
        for machine in sample_machines():
            for room in range(len(machine)):
                self.assertEqual(total([each for row, each in all_rows(machine, room, 4)]), (1, 1))

    def test_marks_of_unlike_lengths_are_sorted(self):
        machine = Machine(["b", "ab", "a", "aa"], [[(1, 4)] * 4] * 4)
        self.assertEqual(
            all_rows(machine, 0, 2),
            [(["b", "a"], (1, 4)), (["b", "aa"], (1, 4)), (["b", "ab"], (1, 4)), (["b", "b"], (1, 4))],
        )

    def test_three_hundred_rows(self):
        machine = spread_evenly(ROWS_300_301)
        self.assertEqual(len(rows_by_walks(machine, 0, 5)), 300)
        self.assertEqual(len(rows_by_walks(machine, 1, 5)), 301)
        self.assertEqual(len(all_rows(machine, 0, 5)), 300)
        with self.assertRaises(TooMany):
            all_rows(machine, 1, 5)
        self.assertEqual(len(all_rows(machine, 1, 4)), len(rows_by_walks(machine, 1, 4)))

    def test_many_more_rows(self):
        machine = spread_evenly([[0, 1, 2, 3, 4, 5]] * 6)
        self.assertEqual(len(all_rows(machine, 5, 4)), 216)
        with self.assertRaises(TooMany):
            all_rows(machine, 5, 5)

    def test_many_walks_but_few_rows(self):
        machine = Machine(["a", "a", "a", "a", "a", "b"], [[(1, 6)] * 6] * 6)
        self.assertEqual(len(all_rows(machine, 0, 5)), 16)

    def test_wrong_numbers_of_marks(self):
        for machine in sample_machines():
            for many in NO_MANY:
                with self.assertRaises(NoNumber):
                    all_rows(machine, 0, many)

    def test_refusals_and_their_order(self):
        check_no_machine(self, all_rows, 0, 1)
        check_no_machine(self, all_rows, -1, 0)
        check_no_machine(self, all_rows, None, None)
        for machine in sample_machines():
            check_no_room(self, machine, lambda room: all_rows(machine, room, 1))
            check_no_room(self, machine, lambda room: all_rows(machine, room, 6))
            check_no_room(self, machine, lambda room: all_rows(machine, room, None))

    def test_by_names(self):
        self.assertEqual(all_rows(many=1, room=1, machine=coins()), [(["b"], (1, 1))])

    def test_told_lists(self):
        for machine in sample_machines():
            for many in (1, 2, 3):
                check_own_lists(self, lambda: all_rows(machine, 0, many))
            check_left_alone(self, all_rows, machine, 0, 3)


class ApartByRows(unittest.TestCase):
    def test_by_hand(self):
        self.assertEqual(apart_by_rows(coins(), 0, 2, 1), ((0, 1), []))
        self.assertEqual(apart_by_rows(coins(), 0, 2, 2), ((1, 4), [["a", "b"]]))
        self.assertEqual(apart_by_rows(coins(), 2, 0, 2), ((1, 4), [["a", "a"]]))
        self.assertEqual(apart_by_rows(coins(), 0, 1, 2), ((1, 1), [["a", "a"], ["a", "b"]]))
        self.assertEqual(apart_by_rows(coins(), 1, 0, 1), ((1, 1), [["b"]]))
        self.assertEqual(apart_by_rows(one_way(), 0, 1, 3), ((1, 2), [["go", "go", "stop"]]))
        self.assertEqual(apart_by_rows(one_room(), 0, 0, 5), ((0, 1), []))

    def test_by_walks(self):
        for machine in sample_machines() + [mixed_machine()]:
            for one in range(len(machine)):
                for other in range(len(machine)):
                    for many in (1, 2, 3, 4):
                        ones, others = rows_by_walks(machine, one, many), rows_by_walks(machine, other, many)
                        greater = sorted([list(row) for row in ones if ones[row] > others.get(row, 0)])
                        self.assertEqual(
                            apart_by_rows(machine, one, other, many), (pair(half_the_sum(ones, others)), greater),
                        )

    def test_no_set_of_rows_differs_by_more(self):
        machine = mixed_machine()
        for one, other, many in ((0, 1, 3), (1, 0, 3), (2, 4, 3), (4, 2, 3), (0, 3, 2)):
            apart, rows = apart_by_rows(machine, one, other, many)
            ones, others = rows_by_walks(machine, one, many), rows_by_walks(machine, other, many)
            gaps = {row: ones.get(row, 0) - others.get(row, 0) for row in set(ones) | set(others)}
            self.assertEqual(number_of(apart), sum([gaps[tuple(row)] for row in rows], Fraction(0)))
            for size in range(len(gaps) + 1):
                for some in itertools.combinations(sorted(gaps), size):
                    self.assertLessEqual(abs(sum([gaps[row] for row in some], Fraction(0))), number_of(apart))

    def test_three_hundred_rows(self):
        machine = spread_evenly(ROWS_300_300)
        self.assertEqual([len(rows_by_walks(machine, room, 5)) for room in (0, 1)], [300, 300])
        apart, rows = apart_by_rows(machine, 0, 1, 5)
        self.assertEqual(apart, (1, 1))
        self.assertEqual(rows, [row for row, each in all_rows(machine, 0, 5)])

    def test_too_many_from_either(self):
        for onward, counts in ((ROWS_300_301, [300, 301]), (ROWS_301_213, [301, 213])):
            machine = spread_evenly(onward)
            self.assertEqual([len(rows_by_walks(machine, room, 5)) for room in (0, 1)], counts)
            for one, other in ((0, 1), (1, 0)):
                with self.assertRaises(TooMany):
                    apart_by_rows(machine, one, other, 5)
        self.assertEqual(apart_by_rows(spread_evenly(ROWS_300_301), 0, 0, 5), ((0, 1), []))
        with self.assertRaises(TooMany):
            apart_by_rows(spread_evenly(ROWS_300_301), 1, 1, 5)

    def test_wrong_numbers_of_marks(self):
        for machine in sample_machines():
            for many in NO_MANY:
                with self.assertRaises(NoNumber):
                    apart_by_rows(machine, 0, len(machine) - 1, many)

    def test_refusals_and_their_order(self):
        check_no_machine(self, apart_by_rows, 0, 0, 1)
        check_no_machine(self, apart_by_rows, -1, -1, 0)
        check_no_machine(self, apart_by_rows, None, None, None)
        for machine in sample_machines():
            check_no_room(self, machine, lambda room: apart_by_rows(machine, room, 0, 1))
            check_no_room(self, machine, lambda room: apart_by_rows(machine, room, "other", 1))
            check_no_room(self, machine, lambda room: apart_by_rows(machine, room, 0, None))
            check_no_room(self, machine, lambda room: apart_by_rows(machine, 0, room, 1))
            check_no_room(self, machine, lambda room: apart_by_rows(machine, 0, room, None))
        crowded = spread_evenly([[0, 1, 2, 3, 4, 5]] * 6)
        check_no_room(self, crowded, lambda room: apart_by_rows(crowded, 0, room, 5))
        with self.assertRaises(NoNumber):
            apart_by_rows(crowded, 0, 1, 6)

    def test_by_names(self):
        self.assertEqual(apart_by_rows(many=2, other=2, one=0, machine=coins()), ((1, 4), [["a", "b"]]))

    def test_told_lists(self):
        for machine in (coins(), mixed_machine(), six_rooms()):
            for many in (1, 2, 3):
                check_own_lists(self, lambda: apart_by_rows(machine, 0, 1, many))
                check_own_lists(self, lambda: apart_by_rows(machine, 0, 2, many))
            check_left_alone(self, apart_by_rows, machine, 0, 1, 3)


if __name__ == "__main__":
    unittest.main()
