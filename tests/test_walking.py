"""Point 6: where a machine is, what it can come to, and machines renamed."""

import itertools
import unittest
from fractions import Fraction

from neartwins.errors import NoNumber, NoOrder
from neartwins.fractions import total
from neartwins.machines import Machine
from neartwins.walking import reached, renamed, where
from tests.things import (
    NO_LISTS, NO_MACHINES, NO_WHOLES, all_walks, check_left_alone, check_no_machine, check_no_room, check_own_lists,
    coins, number_of, one_room, one_way, pair, sample_machines, six_rooms, unlike_lengths, with_each_place,
)


def product(one, other):
    """The product of two square tables of Python's own fractions."""
    rooms = range(len(one))
    return [[sum(one[row][k] * other[k][to] for k in rooms) for to in rooms] for row in rooms]


def powers(machine, steps):
    """Where a machine stands from each room, by doubling the steps where the program goes one by one."""
    rooms = range(len(machine))
    result = [[Fraction(int(row == to)) for to in rooms] for row in rooms]
    base = [[number_of(share) for share in row] for row in machine.shares()]
    while steps > 0:
        if steps % 2 == 1:
            result = product(result, base)
        base = product(base, base)
        steps //= 2
    return result


class Where(unittest.TestCase):
    def test_by_hand(self):
        self.assertEqual(where(coins(), 0, 1), [(1, 2), (1, 2), (0, 1)])
        self.assertEqual(where(coins(), 0, 2), [(1, 4), (5, 12), (1, 3)])
        self.assertEqual(where(one_way(), 0, 2), [(0, 1), (0, 1), (1, 1), (0, 1)])
        self.assertEqual(where(one_way(), 3, 1), [(1, 999), (0, 1), (0, 1), (998, 999)])
        self.assertEqual(where(one_room(), 0, 12), [(1, 1)])

    def test_no_step(self):
        for machine in sample_machines():
            for room in range(len(machine)):
                stands = [(1, 1) if each == room else (0, 1) for each in range(len(machine))]
                self.assertEqual(where(machine, room, 0), stands)

    def test_one_step_where_it_is_left_out(self):
        for machine in sample_machines():
            for room in range(len(machine)):
                self.assertEqual(where(machine, room), machine.shares_of(room))
                self.assertEqual(where(machine, room, 1), machine.shares_of(room))

    def test_by_all_walks(self):
        for machine in sample_machines():
            for room in range(len(machine)):
                for steps in range(5):
                    stands = [Fraction(0)] * len(machine)
                    for walk, each in all_walks(machine, room, steps + 1):
                        stands[walk[-1]] += each
                    self.assertEqual(where(machine, room, steps), [pair(each) for each in stands])

    def test_up_to_twelve_steps(self):
        for machine in sample_machines():
            for steps in range(13):
                reckoned = powers(machine, steps)
                for room in range(len(machine)):
                    told = where(machine, room, steps)
                    self.assertEqual(told, [pair(each) for each in reckoned[room]])
                    self.assertEqual(total(told), (1, 1))

    def test_wrong_steps(self):
        for machine in sample_machines():
            for steps in [-1, 13, 14, -12, 10 ** 59] + NO_WHOLES:
                with self.assertRaises(NoNumber):
                    where(machine, 0, steps)

    def test_refusals_and_their_order(self):
        check_no_machine(self, where, 0)
        check_no_machine(self, where, -1, 13)
        check_no_machine(self, where, None, None)
        for machine in sample_machines():
            check_no_room(self, machine, lambda room: where(machine, room))
            check_no_room(self, machine, lambda room: where(machine, room, 13))
            check_no_room(self, machine, lambda room: where(machine, room, None))

    def test_by_names(self):
        self.assertEqual(where(steps=2, room=0, machine=coins()), [(1, 4), (5, 12), (1, 3)])
        self.assertEqual(where(room=0, machine=coins()), [(1, 2), (1, 2), (0, 1)])

    def test_told_lists(self):
        for machine in sample_machines():
            for steps in (0, 1, 2):
                check_own_lists(self, lambda: where(machine, 0, steps))
            check_left_alone(self, where, machine, 0, 3)


class Reached(unittest.TestCase):
    def test_by_hand(self):
        self.assertEqual(reached(one_room(), 0), [0])
        self.assertEqual(reached(coins(), 1), [0, 1, 2])
        self.assertEqual(reached(one_way(), 0), [0, 1, 2])
        self.assertEqual(reached(one_way(), 1), [1, 2])
        self.assertEqual(reached(one_way(), 2), [2])
        self.assertEqual(reached(one_way(), 3), [0, 1, 2, 3])

    def test_a_long_way_down(self):
        goes_to = [0, 0, 1, 2, 3, 4]
        shares = [[(1, 1) if to == goes_to[room] else (0, 1) for to in range(6)] for room in range(6)]
        machine = Machine(["a"] * 6, shares)
        for room in range(6):
            self.assertEqual(reached(machine, room), list(range(room + 1)))

    def test_itself_without_a_way_back(self):
        machine = Machine(["a", "a", "a"], [[(0, 1), (0, 1), (1, 1)], [(0, 1), (0, 1), (1, 1)], [(0, 1), (0, 1), (1, 1)]])
        self.assertEqual([reached(machine, room) for room in range(3)], [[0, 2], [1, 2], [2]])

    def test_by_standing_there_within_five_steps(self):
        for machine in sample_machines():
            for room in range(len(machine)):
                seen = {to for steps in range(7) for to, each in enumerate(where(machine, room, steps)) if each != (0, 1)}
                self.assertEqual(reached(machine, room), sorted(seen))

    def test_refusals_and_their_order(self):
        check_no_machine(self, reached, 0)
        check_no_machine(self, reached, -1)
        for machine in sample_machines():
            check_no_room(self, machine, lambda room: reached(machine, room))

    def test_by_names(self):
        self.assertEqual(reached(room=1, machine=one_way()), [1, 2])

    def test_told_lists(self):
        for machine in sample_machines():
            for room in range(len(machine)):
                check_own_lists(self, lambda: reached(machine, room))
            check_left_alone(self, reached, machine, 0)


class Renamed(unittest.TestCase):
    def test_by_hand(self):
        self.assertEqual(
            renamed(coins(), [1, 2, 0]),
            Machine(
                ["b", "a", "a"],
                [
                    [(1, 3), (2, 3), (0, 1)],
                    [(1, 4), (1, 2), (1, 4)],
                    [(1, 2), (0, 1), (1, 2)],
                ],
            ),
        )
        self.assertEqual(renamed(one_room(), [0]), one_room())

    def test_every_order(self):
        for machine in (one_room(), coins(), one_way()):
            for order in itertools.permutations(range(len(machine))):
                new = renamed(machine, list(order))
                self.assertIsInstance(new, Machine)
                for room in range(len(machine)):
                    self.assertEqual(new.mark(room), machine.mark(order[room]))
                    for to in range(len(machine)):
                        self.assertEqual(new.shares_of(room)[to], machine.shares_of(order[room])[order[to]])

    def test_six_rooms_and_back(self):
        order = [3, 5, 0, 1, 4, 2]
        back = [order.index(room) for room in range(6)]
        self.assertNotEqual(renamed(six_rooms(), order), six_rooms())
        self.assertEqual(renamed(renamed(six_rooms(), order), back), six_rooms())

    def test_the_walk_goes_with_the_names(self):
        order = [2, 0, 1]
        new = renamed(coins(), order)
        for room in range(3):
            old = where(coins(), order[room], 3)
            self.assertEqual(where(new, room, 3), [old[each] for each in order])

    def test_wrong_orders(self):
        for machine in sample_machines():
            rooms = list(range(len(machine)))
            wrong = NO_LISTS + unlike_lengths(rooms) + [tuple(rooms), {room: room for room in rooms}]
            wrong += [[room + 1 for room in rooms], [room - 1 for room in rooms], rooms + [len(machine)], [rooms]]
            wrong += [order for place, thing, order in with_each_place(rooms, NO_WHOLES + [-1, 6, 7, 10 ** 59])]
            if len(machine) > 1:
                wrong += [[0] * len(machine), rooms[:-1] + [rooms[-2]], rooms[:-1] + [-1]]
            for order in wrong:
                with self.assertRaises(NoOrder):
                    renamed(machine, order)

    def test_refusals_and_their_order(self):
        check_no_machine(self, renamed, [0])
        check_no_machine(self, renamed, None)

    def test_by_names(self):
        self.assertEqual(renamed(order=[0, 1, 2], machine=coins()), coins())

    def test_what_is_handed_in_is_not_kept(self):
        machine, order = coins(), [1, 2, 0]
        check_left_alone(self, renamed, machine, order)
        new = renamed(machine, order)
        shown = repr(new)
        order[0] = 9
        order.append(0)
        self.assertEqual(repr(new), shown)
        check_own_lists(self, new.shares)
        check_left_alone(self, renamed, machine, [2, 2, 0])
        self.assertEqual(machine, coins())


class NoMachines(unittest.TestCase):
    def test_a_machine_is_none_of_them(self):
        for thing in NO_MACHINES:
            self.assertNotIsInstance(thing, Machine)


if __name__ == "__main__":
    unittest.main()
