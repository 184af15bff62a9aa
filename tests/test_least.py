"""Point 19, and of point 3 (d) what speaks of machines made least."""

import itertools
import unittest
from fractions import Fraction

from neartwins.beside import alike_machines
from neartwins.distances import distances
from neartwins.errors import TooMany
from neartwins.least import is_least, made_least
from neartwins.lumps import lumps
from neartwins.machines import Machine
from neartwins.walking import renamed
from tests.things import (
    FADES, check_left_alone, check_no_machine, check_own_lists, coins, great_figures, number_of, one_room, pair,
    random_machines, telling_machines, with_twins,
)


def summed(first, second):
    """Rooms 0 and 1 are alike, and go on to their lump by one over first and one over second together."""
    ones = [(1, first), (1, second), pair(Fraction(first - 2, 2 * first)), pair(Fraction(second - 2, 2 * second))]
    others = [ones[1], ones[0], ones[3], ones[2]]
    return Machine(["a", "a", "b", "b"], [ones, others, [(0, 1), (0, 1), (1, 2), (1, 2)], [(0, 1)] * 3 + [(1, 1)]])


def doubled(shares, marks):
    """A machine in which each room of a small one stands twice, and goes by unlike parts to both of each."""
    rows = []
    for row in shares:
        halves = [[pair(number_of(share) / 2)] * 2 for share in row]
        rows.append([share for both in halves for share in both])
        rows.append([each for share in row for each in (share, (0, 1))])
    return Machine([mark for mark in marks for twice in range(2)], rows)


def lump_machines():
    """Machines with rooms that are alike, and without."""
    return telling_machines() + random_machines(41, 30) + [
        doubled([[(1, 2), (1, 2)], [(1, 3), (2, 3)]], ["a", "b"]),
        doubled([[(1, 2), (1, 4), (1, 4)], [(0, 1), (1, 1), (0, 1)], [(1, 6), (1, 2), (1, 3)]], ["a", "a", "b"]),
        doubled([[(1, 1)]], ["zz"]),
        Machine(["a"] * 6, [[(1, 6)] * 6] * 6),
    ]


class MadeLeast(unittest.TestCase):
    def test_by_hand(self):
        self.assertEqual(made_least(one_room()), (one_room(), [0]))
        self.assertEqual(made_least(coins()), (coins(), [0, 1, 2]))
        least = Machine(
            ["a", "b", "a", "a"],
            [
                [(1, 2), (1, 2), (0, 1), (0, 1)],
                [(0, 1), (0, 1), (1, 1), (0, 1)],
                [(1, 3), (1, 3), (1, 3), (0, 1)],
                [(0, 1), (2, 3), (1, 3), (0, 1)],
            ],
        )
        self.assertEqual(made_least(with_twins()), (least, [0, 1, 2, 0, 1, 3]))
        same = Machine(["a"] * 6, [[(1, 6)] * 6] * 6)
        self.assertEqual(made_least(same), (one_room(), [0] * 6))

    def test_a_tuple_of_a_machine_and_a_list(self):
        for machine in lump_machines():
            told = made_least(machine)
            self.assertIsInstance(told, tuple)
            self.assertEqual(len(told), 2)
            self.assertIsInstance(told[0], Machine)
            self.assertIsInstance(told[1], list)

    def test_a_room_for_each_lump(self):
        for machine in lump_machines():
            least, numbers = made_least(machine)
            greatest = lumps(machine)
            self.assertEqual(len(least), len(greatest))
            for room, number in enumerate(numbers):
                self.assertIn(room, greatest[number])
            self.assertEqual(len(numbers), len(machine))
            for number, rooms in enumerate(greatest):
                for room in rooms:
                    self.assertEqual(least.mark(number), machine.mark(room))
                    row = machine.shares_of(room)
                    onward = [sum([number_of(row[to]) for to in some], Fraction(0)) for some in greatest]
                    self.assertEqual(least.shares_of(number), [pair(share) for share in onward])

    def test_made_least_again_it_is_itself(self):
        for machine in lump_machines():
            least = made_least(machine)[0]
            self.assertEqual(made_least(least), (least, list(range(len(least)))))

    def test_the_distances_are_the_same(self):
        for machine in lump_machines():
            least, numbers = made_least(machine)
            for fade in FADES[:3]:
                table = distances(machine, fade)
                small = distances(least, fade)
                for one, other in itertools.product(range(len(machine)), repeat=2):
                    self.assertEqual(table[one][other], small[numbers[one]][numbers[other]])

    def test_alike_to_the_machine(self):
        for machine in lump_machines():
            self.assertIs(alike_machines(machine, made_least(machine)[0]), True)

    def test_three_figures(self):
        # 1/27 and 1/37 come to 64/999, 1/8 and 1/125 (133/1000) are just too many.
        least, numbers = made_least(summed(27, 37))
        self.assertEqual(least, Machine(["a", "b"], [[(64, 999), (935, 999)], [(0, 1), (1, 1)]]))
        self.assertEqual(numbers, [0, 0, 1, 1])
        for first, second in ((8, 125), (31, 37), (499, 498)):
            self.assertEqual(lumps(summed(first, second)), [[0, 1], [2, 3]])
            with self.assertRaises(TooMany):
                made_least(summed(first, second))

    def test_too_many_figures_in_whatever_room(self):
        for order in itertools.permutations(range(4)):
            with self.assertRaises(TooMany):
                made_least(renamed(summed(31, 37), list(order)))
            least = made_least(renamed(summed(27, 37), list(order)))[0]
            self.assertEqual(len(least), 2)

    def test_figures_that_need_not_come_together(self):
        self.assertEqual(made_least(great_figures()), (great_figures(), list(range(6))))

    def test_refusals_own_lists_and_names(self):
        check_no_machine(self, made_least)
        for machine in lump_machines():
            check_own_lists(self, lambda: made_least(machine)[1])
            check_own_lists(self, lambda: made_least(machine)[0].shares())
            check_left_alone(self, made_least, machine)
        check_left_alone(self, made_least, summed(31, 37))
        self.assertEqual(made_least(machine=with_twins()), made_least(with_twins()))


class IsLeast(unittest.TestCase):
    def test_no_two_rooms_alike(self):
        for machine in lump_machines():
            self.assertIs(is_least(machine), all(len(rooms) == 1 for rooms in lumps(machine)))
            self.assertIs(is_least(made_least(machine)[0]), True)

    def test_by_hand(self):
        self.assertIs(is_least(one_room()), True)
        self.assertIs(is_least(coins()), True)
        self.assertIs(is_least(with_twins()), False)
        self.assertIs(is_least(Machine(["a", "a"], [[(1, 2), (1, 2)], [(0, 1), (1, 1)]])), False)

    def test_where_made_least_is_refused(self):
        self.assertIs(is_least(summed(31, 37)), False)

    def test_refusals_and_names(self):
        check_no_machine(self, is_least)
        self.assertIs(is_least(machine=with_twins()), False)
        check_left_alone(self, is_least, with_twins())


if __name__ == "__main__":
    unittest.main()
