"""Point 20, and of point 3 (d) what speaks of machines side by side."""

import itertools
import unittest
from fractions import Fraction

from neartwins.beside import alike_machines, beside, between, twins_of
from neartwins.distances import distances
from neartwins.errors import NoFade, NoMachine, TooMany
from neartwins.least import is_least, made_least
from neartwins.lumps import alike, lumps
from neartwins.machines import Machine
from neartwins.walking import renamed
from tests.things import (
    FADES, NO_FADES, NO_MACHINES, chain, check_fades, check_left_alone, check_no_machine, check_own_lists, coins,
    great_figures, lasting, number_of, one_room, one_way, random_machines, six_rooms, telling_machines, with_twins,
)


def two_rooms():
    """Room 0 is alike to the one room of one_room, room 1 is not."""
    return Machine(["a", "b"], [[(1, 1), (0, 1)], [(1, 2), (1, 2)]])


def three_alike():
    """Three rooms, all alike to the one room of one_room."""
    return Machine(["a"] * 3, [[(1, 3)] * 3, [(0, 1), (0, 1), (1, 1)], [(1, 2), (0, 1), (1, 2)]])


def small_machines():
    """Machines of at most three rooms, of which any two can stand side by side."""
    found = [one_room(), two_rooms(), coins(), lasting(), three_alike(), Machine(["b"], [[(1, 1)]])]
    return found + [machine for machine in random_machines(51, 30) if len(machine) <= 3]


def all_machines():
    """Machines of one to six rooms."""
    return small_machines() + telling_machines() + random_machines(52, 6)


def onward(machine, room, some):
    """The share that goes on from a room to some rooms, in Python's own fractions."""
    return sum([number_of(machine.shares_of(room)[to]) for to in some], Fraction(0))


def by_classes(one, other):
    """For each room of the first the rooms of the second that are alike: those which nothing ever tells apart."""
    machines = (one, other)
    rooms = [(0, room) for room in range(len(one))] + [(1, room) for room in range(len(other))]
    same = {(x, y) for x in rooms for y in rooms if machines[x[0]].mark(x[1]) == machines[y[0]].mark(y[1])}
    kept = None
    while kept != same:
        same = same if kept is None else kept
        classes = {frozenset(y for y in rooms if (x, y) in same) for x in rooms}
        goes = {
            x: [onward(machines[x[0]], x[1], [to for side, to in some if side == x[0]]) for some in classes]
            for x in rooms
        }
        kept = {(x, y) for x, y in same if goes[x] == goes[y]}
    return [[room for room in range(len(other)) if ((0, own), (1, room)) in same] for own in range(len(one))]


def check_no_machines(test, call, *behind):
    """That what is no machine is refused in the first and in the second place."""
    check_no_machine(test, call, one_room(), *behind)
    check_no_machine(test, call, None, *behind)
    for thing in NO_MACHINES:
        with test.assertRaises(NoMachine) as caught:
            call(one_room(), thing, *behind)
        test.assertEqual((caught.exception.part, caught.exception.number), ("machine", None))
        with test.assertRaises(NoMachine):
            call(six_rooms(), thing, *behind)


class Beside(unittest.TestCase):
    def test_by_hand(self):
        self.assertEqual(
            beside(two_rooms(), one_room()),
            Machine(
                ["a", "b", "a"],
                [[(1, 1), (0, 1), (0, 1)], [(1, 2), (1, 2), (0, 1)], [(0, 1), (0, 1), (1, 1)]],
            ),
        )
        self.assertEqual(
            beside(one_room(), two_rooms()),
            Machine(
                ["a", "a", "b"],
                [[(1, 1), (0, 1), (0, 1)], [(0, 1), (1, 1), (0, 1)], [(0, 1), (1, 2), (1, 2)]],
            ),
        )

    def test_rooms_of_both_go_on_as_they_did(self):
        for one, other in itertools.product(small_machines(), repeat=2):
            both = beside(one, other)
            self.assertIsInstance(both, Machine)
            self.assertEqual(both.marks(), one.marks() + other.marks())
            for room in range(len(one)):
                self.assertEqual(both.shares_of(room), one.shares_of(room) + [(0, 1)] * len(other))
            for room in range(len(other)):
                self.assertEqual(both.shares_of(len(one) + room), [(0, 1)] * len(one) + other.shares_of(room))

    def test_each_keeps_its_own_distances(self):
        for one, other in itertools.product(small_machines()[:8], repeat=2):
            for fade in FADES[:3]:
                table = distances(beside(one, other), fade)
                self.assertEqual([row[:len(one)] for row in table[:len(one)]], distances(one, fade))
                self.assertEqual([row[len(one):] for row in table[len(one):]], distances(other, fade))

    def test_six_rooms_and_more(self):
        five = made_least(Machine(list("abcde"), [[(1, 5)] * 5] * 5))[0]
        self.assertEqual(len(beside(five, one_room())), 6)
        self.assertEqual(len(beside(one_room(), five)), 6)
        self.assertEqual(len(beside(one_way(), two_rooms())), 6)
        for one, other in itertools.product(all_machines(), repeat=2):
            if len(one) + len(other) > 6:
                with self.assertRaises(TooMany):
                    beside(one, other)

    def test_both_stay(self):
        for one, other in itertools.product(small_machines()[:5] + [six_rooms()], repeat=2):
            check_left_alone(self, beside, one, other)
        one, other = coins(), lasting()
        both = beside(one, other)
        self.assertEqual((one, other), (coins(), lasting()))
        check_own_lists(self, both.shares)
        self.assertEqual((one, other), (coins(), lasting()))

    def test_refusals_and_names(self):
        check_no_machines(self, beside)
        self.assertEqual(beside(other=coins(), one=lasting()), beside(lasting(), coins()))


class Between(unittest.TestCase):
    def test_by_hand(self):
        self.assertEqual(between(one_room(), two_rooms()), [[(0, 1), (1, 1)]])
        self.assertEqual(between(two_rooms(), one_room()), [[(0, 1)], [(1, 1)]])
        # Room 0 of lasting is as far from a room that stays in a as it is from its own room 1.
        self.assertEqual(between(one_room(), lasting(), (2, 3)), [[(1, 2), (0, 1), (1, 1)]])

    def test_side_by_side(self):
        for one, other in itertools.product(small_machines(), repeat=2):
            for fade in ((1, 2), (998, 999)):
                table = distances(beside(one, other), fade)
                told = between(one, other, fade)
                self.assertEqual(told, [row[len(one):] for row in table[:len(one)]])
                self.assertEqual(between(other, one, fade), [list(row) for row in zip(*told)])

    def test_from_a_machine_to_itself(self):
        for machine in small_machines():
            for fade in FADES[:3]:
                self.assertEqual(between(machine, machine, fade), distances(machine, fade))

    def test_refusals_and_their_order(self):
        check_no_machines(self, between)
        check_no_machines(self, between, (1, 1))
        check_fades(self, lambda *fade, **named: between(coins(), lasting(), *fade, **named))
        for fade in [None, (1, 2)] + NO_FADES:
            with self.assertRaises(TooMany):
                between(one_way(), coins(), fade)
            with self.assertRaises(TooMany):
                between(one_room(), six_rooms(), fade=fade)
        with self.assertRaises(NoFade):
            between(one_room(), one_room(), (1, 1))

    def test_own_lists_and_names(self):
        for one, other in itertools.product(small_machines()[:5], repeat=2):
            check_own_lists(self, lambda: between(one, other, (1, 3)))
            check_left_alone(self, between, one, other, (1, 3))
        self.assertEqual(between(fade=(1, 3), other=coins(), one=lasting()), between(lasting(), coins(), (1, 3)))


class TwinsOf(unittest.TestCase):
    def test_by_hand(self):
        self.assertEqual(twins_of(one_room(), three_alike()), [[0, 1, 2]])
        self.assertEqual(twins_of(three_alike(), one_room()), [[0], [0], [0]])
        self.assertEqual(twins_of(two_rooms(), three_alike()), [[0, 1, 2], []])
        self.assertEqual(twins_of(coins(), coins()), [[0], [1], [2]])
        self.assertEqual(twins_of(with_twins(), with_twins()), [[0, 3], [1, 4], [2], [0, 3], [1, 4], [5]])
        self.assertEqual(twins_of(chain(), great_figures()), [[]] * 6)

    def test_the_same_marks_and_shares_but_not_the_same_rooms_behind(self):
        one = Machine(["a", "b"], [[(0, 1), (1, 1)], [(1, 1), (0, 1)]])
        other = Machine(["a", "b", "b"], [[(0, 1), (1, 1), (0, 1)], [(1, 1), (0, 1), (0, 1)], [(0, 1), (0, 1), (1, 1)]])
        self.assertEqual(twins_of(one, other), [[0], [1]])
        self.assertEqual(twins_of(other, one), [[0], [1], []])

    def test_however_many_rooms_there_are(self):
        for one, other in itertools.product(all_machines(), repeat=2):
            told = twins_of(one, other)
            self.assertEqual(told, by_classes(one, other))
            back = twins_of(other, one)
            self.assertEqual(back, [[room for room in range(len(one)) if to in told[room]] for to in range(len(other))])

    def test_at_nought_side_by_side(self):
        for one, other in itertools.product(small_machines(), repeat=2):
            both = beside(one, other)
            told = twins_of(one, other)
            gaps = between(one, other)
            for room, to in itertools.product(range(len(one)), range(len(other))):
                self.assertIs(to in told[room], alike(both, room, len(one) + to))
                self.assertIs(to in told[room], gaps[room][to] == (0, 1))

    def test_of_a_machine_and_itself(self):
        for machine in all_machines():
            greatest = lumps(machine)
            told = [[rooms for rooms in greatest if room in rooms][0] for room in range(len(machine))]
            self.assertEqual(twins_of(machine, machine), told)

    def test_refusals_own_lists_and_names(self):
        check_no_machines(self, twins_of)
        for one, other in ((with_twins(), with_twins()), (one_room(), three_alike()), (six_rooms(), one_way())):
            check_own_lists(self, lambda: twins_of(one, other))
            check_left_alone(self, twins_of, one, other)
        self.assertEqual(twins_of(other=three_alike(), one=one_room()), [[0, 1, 2]])


class AlikeMachines(unittest.TestCase):
    def test_by_hand(self):
        self.assertIs(alike_machines(one_room(), three_alike()), True)
        self.assertIs(alike_machines(three_alike(), one_room()), True)
        self.assertIs(alike_machines(one_room(), two_rooms()), False)
        self.assertIs(alike_machines(two_rooms(), one_room()), False)
        self.assertIs(alike_machines(coins(), lasting()), False)

    def test_each_room_of_either(self):
        for one, other in itertools.product(all_machines(), repeat=2):
            found = all(twins_of(one, other)) and all(twins_of(other, one))
            self.assertIs(alike_machines(one, other), found)

    def test_itself_made_least_and_renamed(self):
        for machine in all_machines():
            self.assertIs(alike_machines(machine, machine), True)
            rooms = list(range(len(machine)))
            for order in (rooms[::-1], rooms[1:] + rooms[:1], rooms[::2] + rooms[1::2]):
                self.assertIs(alike_machines(machine, renamed(machine, order)), True)
            least = made_least(machine)[0]
            self.assertIs(alike_machines(machine, least), True)
            self.assertIs(alike_machines(renamed(least, list(range(len(least)))[::-1]), machine), True)

    def test_none_with_fewer_rooms(self):
        for one, other in itertools.product(all_machines(), repeat=2):
            if is_least(one) and len(other) < len(one):
                self.assertIs(alike_machines(one, other), False)
                self.assertIs(alike_machines(other, one), False)

    def test_refusals_and_names(self):
        check_no_machines(self, alike_machines)
        check_left_alone(self, alike_machines, with_twins(), three_alike())
        self.assertIs(alike_machines(other=three_alike(), one=one_room()), True)


if __name__ == "__main__":
    unittest.main()
