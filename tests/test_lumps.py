"""Points 17 and 18, and of point 3 what speaks of lumps: rooms that are alike."""

import itertools
import unittest
from fractions import Fraction

from neartwins.distances import distances
from neartwins.lumps import alike, are_lumps, lumps, rounds
from neartwins.machines import Machine
from neartwins.marks import all_rows, chance
from neartwins.walking import renamed
from tests.things import (
    NO_FRACTIONS, NO_LISTS, NO_WHOLES, chain, check_left_alone, check_no_machine, check_no_room, check_own_lists,
    coins, great_figures, lasting, number_of, one_room, random_machines, six_rooms, telling_machines, unlike_lengths,
    with_each_place, with_twins,
)


def same_rows():
    """A machine whose rooms 0 and 1 have the same chances of all rows, but are not alike: 1 chooses a step later."""
    onward = [{2: (1, 2), 3: (1, 2)}, {4: (1, 1)}, {5: (1, 1)}, {2: (1, 1)}, {5: (1, 2), 2: (1, 2)}, {5: (1, 1)}]
    return Machine(["a", "a", "b", "b", "b", "c"], [[row.get(to, (0, 1)) for to in range(6)] for row in onward])


def ring(many):
    """A machine of so many rooms with one mark, each of which goes on to the next one."""
    rooms = range(many)
    return Machine(["a"] * many, [[(1, 1) if to == (room + 1) % many else (0, 1) for to in rooms] for room in rooms])


def by_lumps():
    """Rooms 0, 2 and 4 are alike, and 1 and 3, by shares of unlike bottoms that come together alike."""
    return Machine(
        ["a", "b", "a", "b", "a", "b"],
        [
            [(1, 6), (1, 3), (1, 6), (1, 6), (1, 6), (0, 1)],
            [(1, 7), (2, 7), (2, 7), (1, 7), (0, 1), (1, 7)],
            [(1, 2), (0, 1), (0, 1), (1, 2), (0, 1), (0, 1)],
            [(0, 1), (0, 1), (3, 7), (3, 7), (0, 1), (1, 7)],
            [(1, 4), (1, 8), (1, 8), (3, 8), (1, 8), (0, 1)],
            [(0, 1), (0, 1), (0, 1), (0, 1), (0, 1), (1, 1)],
        ],
    )


def lumpy_machines():
    """All machines of which lumps are looked at here."""
    return telling_machines() + [same_rows(), by_lumps(), ring(1), ring(4), ring(6)] + random_machines(31, 12)


def partings(rooms):
    """All partings of a list of rooms, as the document has them: lists rising, by their first rooms."""
    if rooms == []:
        return [[]]
    found = []
    for parting in partings(rooms[:-1]):
        for place in range(len(parting)):
            found.append([each + [rooms[-1]] if at == place else list(each) for at, each in enumerate(parting)])
        found.append([list(each) for each in parting] + [[rooms[-1]]])
    return found


def onward(machine, room, some):
    """The share that goes on from a room to some rooms, in Python's own fractions."""
    return sum([number_of(machine.shares_of(room)[to]) for to in some], Fraction(0))


def hold_together(machine, parting):
    """Whether two rooms in one list always have the same mark and go on alike to each list."""
    return all(
        machine.mark(one) == machine.mark(other)
        and all(onward(machine, one, some) == onward(machine, other, some) for some in parting)
        for rooms in parting for one in rooms for other in rooms
    )


def grouped(many, same):
    """The rooms in lists of those which are the same, the lists by their first rooms."""
    found = []
    for room in range(many):
        fitting = [rooms for rooms in found if same(rooms[0], room)]
        if fitting:
            fitting[0].append(room)
        else:
            found.append([room])
    return found


def together(parting, one, other):
    """Whether two rooms are in one list."""
    return any(one in rooms and other in rooms for rooms in parting)


class AreLumps(unittest.TestCase):
    def test_every_parting(self):
        for machine in lumpy_machines():
            for parting in partings(list(range(len(machine)))):
                self.assertIs(are_lumps(machine, parting), hold_together(machine, parting))

    def test_single_rooms_are_lumps(self):
        for machine in lumpy_machines():
            self.assertIs(are_lumps(machine, [[room] for room in range(len(machine))]), True)

    def test_by_hand(self):
        self.assertIs(are_lumps(with_twins(), [[0, 3], [1, 4], [2], [5]]), True)
        self.assertIs(are_lumps(with_twins(), [[0], [1, 4], [2], [3], [5]]), True)
        self.assertIs(are_lumps(with_twins(), [[0, 3], [1], [2], [4], [5]]), False)
        self.assertIs(are_lumps(coins(), [[0, 2], [1]]), False)
        self.assertIs(are_lumps(coins(), [[0, 1], [2]]), False)
        self.assertIs(are_lumps(ring(4), [[0, 2], [1, 3]]), True)
        self.assertIs(are_lumps(ring(4), [[0, 1], [2, 3]]), False)
        self.assertIs(are_lumps(ring(4), [[0, 1, 2, 3]]), True)

    def test_unlike_marks_alone(self):
        machine = Machine(["a", "b"], [[(1, 2), (1, 2)], [(1, 2), (1, 2)]])
        self.assertIs(are_lumps(machine, [[0, 1]]), False)
        self.assertIs(are_lumps(machine, [[0], [1]]), True)

    def test_anything(self):
        good = [[0, 3], [1, 4], [2], [5]]
        self.assertIs(are_lumps(with_twins(), good), True)
        wrong = NO_LISTS + NO_FRACTIONS + NO_WHOLES + unlike_lengths(good) + [
            [[3, 0], [1, 4], [2], [5]], [[0, 3], [4, 1], [2], [5]], [[1, 4], [0, 3], [2], [5]],
            [[0, 3], [1, 4], [5], [2]],
            [[0, 3], [1, 4], [2], [5], []], [[], [0, 3], [1, 4], [2], [5]], [[0, 3], [], [1, 4], [2], [5]],
            [[0, 0, 3], [1, 4], [2], [5]], [[0, 3], [1, 4], [2], [2], [5]], [[0, 3], [1, 3, 4], [2], [5]],
            [[0, 3], [1, 4], [2]], [[0], [1, 4], [2], [5]], [[0, 3], [1, 4], [2], [5], [6]],
            [[-1], [0, 3], [1, 4], [2], [5]],
            [[0, 3], [1, 4], [2], [-1]], [[False, 3], [1, 4], [2], [5]], [[0, 3], [True, 4], [2], [5]],
            [(0, 3), [1, 4], [2], [5]], [[0, 3], (1, 4), (2,), (5,)], ([0, 3], [1, 4], [2], [5]),
            ((0, 3), (1, 4), (2,), (5,)), [0, 3, 1, 4, 2, 5], [0, 1, 2, 3, 4, 5], [[0, 3], [1, 4], 2, 5],
            [[[0], [3]], [1, 4], [2], [5]], [good], [[good]], dict(enumerate(good)), [{0: 0, 3: 3}, [1, 4], [2], [5]],
            ["03", "14", "2", "5"], [["0", "3"], [1, 4], [2], [5]], [[0, 3], [1, 4], [2], [10 ** 59]],
            [[0, 1, 2, 3, 4, 5]], [[0, 3, 5], [1, 4], [2]], [[0, 2], [1, 4], [3], [5]], [[]], [[]] * 6,
        ]
        wrong += [changed for place, thing, changed in with_each_place(good, NO_LISTS)]
        for place, rooms in enumerate(good):
            for at, thing, changed in with_each_place(rooms, NO_WHOLES + [6, -1, 10 ** 59]):
                wrong.append(good[:place] + [changed] + good[place + 1:])
        for place, thing in enumerate(wrong):
            with self.subTest(place=place):
                self.assertIs(are_lumps(with_twins(), thing), False)

    def test_truths_in_the_place_of_rooms(self):
        self.assertIs(are_lumps(one_room(), [[0]]), True)
        self.assertIs(are_lumps(one_room(), [[False]]), False)
        self.assertIs(are_lumps(coins(), [[0], [1], [2]]), True)
        self.assertIs(are_lumps(coins(), [[0], [True], [2]]), False)

    def test_long_lists(self):
        for thing in ([[0]] * 2000, [[]] * 2000, [[0, 1, 2] * 600], [[room] for room in range(2000)]):
            self.assertIs(are_lumps(coins(), thing), False)

    def test_refusals_names_and_left_alone(self):
        for thing in ([[0]], None, "lumps", []):
            check_no_machine(self, are_lumps, thing)
        self.assertIs(are_lumps(thing=[[0, 3], [1, 4], [2], [5]], machine=with_twins()), True)
        check_left_alone(self, are_lumps, with_twins(), [[0, 3], [1, 4], [2], [5]])
        check_left_alone(self, are_lumps, with_twins(), [[3, 0], [], [1, 4], [2], [5]])


class Greatest(unittest.TestCase):
    def test_by_hand(self):
        self.assertEqual(lumps(one_room()), [[0]])
        self.assertEqual(lumps(with_twins()), [[0, 3], [1, 4], [2], [5]])
        self.assertEqual(lumps(by_lumps()), [[0, 2, 4], [1, 3], [5]])
        self.assertEqual(lumps(ring(6)), [[0, 1, 2, 3, 4, 5]])
        self.assertEqual(lumps(chain()), [[0], [1], [2], [3], [4], [5]])
        self.assertEqual(lumps(same_rows()), [[0], [1], [2], [3], [4], [5]])
        self.assertEqual(lumps(great_figures()), [[0], [1], [2], [3], [4], [5]])

    def test_all_other_lumps_lie_within(self):
        for machine in lumpy_machines():
            greatest = lumps(machine)
            self.assertIs(are_lumps(machine, greatest), True)
            for parting in partings(list(range(len(machine)))):
                if are_lumps(machine, parting):
                    for rooms in parting:
                        self.assertTrue(any(set(rooms) <= set(lump) for lump in greatest))

    def test_renamed(self):
        for machine in (with_twins(), by_lumps(), six_rooms()):
            order = [5, 3, 1, 0, 2, 4]
            news = sorted(sorted(order.index(room) for room in lump) for lump in lumps(machine))
            self.assertEqual(lumps(renamed(machine, order)), news)

    def test_refusals_own_lists_and_names(self):
        check_no_machine(self, lumps)
        for machine in lumpy_machines():
            check_own_lists(self, lambda: lumps(machine))
            check_left_alone(self, lumps, machine)
        self.assertEqual(lumps(machine=coins()), lumps(coins()))


class Rounds(unittest.TestCase):
    def test_by_hand(self):
        self.assertEqual(rounds(one_room()), [[[0]]])
        self.assertEqual(rounds(ring(6)), [[[0, 1, 2, 3, 4, 5]]])
        self.assertEqual(rounds(coins()), [[[0, 2], [1]], [[0], [1], [2]]])
        self.assertEqual(
            rounds(chain()),
            [
                [[0, 1, 2, 3, 4], [5]], [[0, 1, 2, 3], [4], [5]], [[0, 1, 2], [3], [4], [5]],
                [[0, 1], [2], [3], [4], [5]], [[0], [1], [2], [3], [4], [5]],
            ],
        )
        self.assertEqual(rounds(with_twins()), [[[0, 2, 3, 5], [1, 4]], [[0, 3], [1, 4], [2], [5]]])
        self.assertEqual(
            rounds(same_rows()),
            [[[0, 1], [2, 3, 4], [5]], [[0, 1], [2], [3], [4], [5]], [[0], [1], [2], [3], [4], [5]]],
        )

    def test_each_by_the_one_ahead(self):
        for machine in lumpy_machines():
            told = rounds(machine)
            many = len(machine)
            self.assertEqual(told[0], grouped(many, lambda one, other: machine.mark(one) == machine.mark(other)))
            for former, later in zip(told, told[1:] + [told[-1]]):
                parted = grouped(many, lambda one, other: together(former, one, other) and all(
                    onward(machine, one, some) == onward(machine, other, some) for some in former
                ))
                self.assertEqual(later, parted)

    def test_none_twice_and_the_last_the_greatest(self):
        for machine in lumpy_machines():
            told = rounds(machine)
            self.assertEqual(told[-1], lumps(machine))
            for one, other in itertools.combinations(told, 2):
                self.assertNotEqual(one, other)

    def test_refusals_own_lists_and_names(self):
        check_no_machine(self, rounds)
        for machine in lumpy_machines():
            check_own_lists(self, lambda: rounds(machine))
            check_left_alone(self, rounds, machine)
        self.assertEqual(rounds(machine=coins()), rounds(coins()))


class Alike(unittest.TestCase):
    def test_in_one_of_the_greatest_lumps(self):
        for machine in lumpy_machines():
            greatest = lumps(machine)
            for one, other in itertools.product(range(len(machine)), repeat=2):
                self.assertIs(alike(machine, one, other), together(greatest, one, other))

    def test_at_nought_just_where_alike(self):
        for machine in lumpy_machines():
            for fade in ((1, 2), (1, 999), (998, 999)):
                table = distances(machine, fade)
                for one, other in itertools.product(range(len(machine)), repeat=2):
                    self.assertIs(alike(machine, one, other), table[one][other] == (0, 1))

    def test_all_rows_have_the_same_chances_from_alike_rooms(self):
        for machine in (with_twins(), by_lumps(), ring(6), lasting(), one_room()):
            for one, other in itertools.product(range(len(machine)), repeat=2):
                if alike(machine, one, other):
                    for many in range(1, 6):
                        self.assertEqual(all_rows(machine, one, many), all_rows(machine, other, many))
                    for row in itertools.product(["a", "b"], repeat=7):
                        self.assertEqual(chance(machine, one, list(row)), chance(machine, other, list(row)))

    def test_the_same_chances_from_rooms_that_are_not_alike(self):
        for many in range(1, 6):
            self.assertEqual(all_rows(same_rows(), 0, many), all_rows(same_rows(), 1, many))
        self.assertIs(alike(same_rows(), 0, 1), False)
        self.assertNotEqual(distances(same_rows())[0][1], (0, 1))

    def test_refusals_and_their_order(self):
        check_no_machine(self, alike, 0, 0)
        check_no_machine(self, alike, 9, None)
        check_no_room(self, coins(), lambda room: alike(coins(), room, 1))
        check_no_room(self, coins(), lambda room: alike(coins(), room, "last"))
        check_no_room(self, coins(), lambda room: alike(coins(), 1, room))

    def test_by_names(self):
        self.assertIs(alike(other=3, one=0, machine=with_twins()), True)
        check_left_alone(self, alike, with_twins(), 0, 3)


if __name__ == "__main__":
    unittest.main()
