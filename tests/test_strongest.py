"""Point 22, and of point 3 (e) what speaks of the strongest tests."""

import itertools
import random
import unittest

from neartwins.errors import NoFade, NoNumber, NoRoom, TooMany
from neartwins.machines import Machine
from neartwins.sheets import Sheet
from neartwins.strongest import strongest
from neartwins.tables import tables_by
from tests.things import (
    FADES, NO_FADES, NO_WHOLES, chain, check_fades, check_in_good_time, check_left_alone, check_no_machine,
    check_no_room, coins, lasting, number_of, one_room, one_way, pair, random_shares, six_rooms, values_by_hand,
)


def short_chain():
    """Four rooms, each of which goes on to the next one, the last to itself, which alone has another mark."""
    onward = [[(1, 1) if to == min(room + 1, 3) else (0, 1) for to in range(4)] for room in range(4)]
    return Machine(["a", "a", "a", "b"], onward)


def great_shares(marks):
    """Four rooms with these marks, whose shares have three figures and unlike bottoms."""
    parts = [(331, 317), (313, 311), (307, 293), (283, 281)]
    shares = []
    for room, (one, other) in enumerate(parts):
        first, second = 100 + 31 * room, 70 + 17 * room
        row = [pair(number_of(each)) for each in (
            (first, 3 * one), (one - first, 3 * one), (2 * second, 3 * other), (2 * (other - second), 3 * other),
        )]
        shares.append(row[room:] + row[:room])
    return Machine(marks, shares)


def parted_machines():
    """Machines of one to four rooms."""
    source = random.Random(71)
    found = [one_room(), coins(), lasting(), one_way(), short_chain()]
    found += [great_shares(list(marks)) for marks in ("aaaa", "aaab", "abaa", "aabb", "abcd", "baaa")]
    for each in range(24):
        many = source.choice([2, 3, 4, 4])
        marks = [source.choice("aaab") for room in range(many)]
        bottoms = [source.choice([1, 2, 3, 5, 10, 997, 999]) for room in range(many)]
        found.append(Machine(marks, [random_shares(source, many, bottom) for bottom in bottoms]))
    return found


def parts(test, machine, one, other, steps, fade):
    """By how much the last row of the strongest sheet parts two rooms, when all is as it must be."""
    sheet = check_in_good_time(test, lambda: strongest(machine, one, other, steps, fade))
    test.assertIsInstance(sheet, Sheet)
    test.assertLessEqual(len(sheet), 1500)
    test.assertEqual(Sheet(sheet.rows()), sheet)
    test.assertLess(sheet.steps()[-1], steps)
    values = values_by_hand(sheet.rows(), machine, fade)[-1]
    test.assertEqual([pair(value) for value in values], sheet.worths(machine, fade)[-1])
    return pair(abs(values[one] - values[other]))


class Strongest(unittest.TestCase):
    def test_just_what_the_table_has(self):
        for machine in parted_machines():
            for fade in FADES[:3]:
                tables = tables_by(machine, 4, fade)
                for steps in range(1, 5):
                    for one, other in itertools.combinations(range(len(machine)), 2):
                        told = parts(self, machine, one, other, steps, fade)
                        self.assertEqual(told, tables[steps][one][other])

    def test_rooms_the_other_way_about_and_the_same_room(self):
        for machine in (one_room(), coins(), short_chain(), great_shares(list("aaab")), great_shares(list("aaaa"))):
            tables = tables_by(machine, 4, (2, 3))
            for steps in range(1, 5):
                for one, other in itertools.product(range(len(machine)), repeat=2):
                    told = parts(self, machine, one, other, steps, (2, 3))
                    self.assertEqual(told, tables[steps][one][other])

    def test_by_hand(self):
        for fade in FADES:
            # Rooms 0 and 1 are told apart by three steps only, rooms 1 and 2 by two.
            told = [parts(self, short_chain(), 0, 1, steps, fade) for steps in range(1, 5)]
            self.assertEqual(told, [(0, 1), (0, 1), pair(number_of(fade) ** 2), pair(number_of(fade) ** 2)])
            told = [parts(self, short_chain(), 2, 1, steps, fade) for steps in range(1, 5)]
            self.assertEqual(told, [(0, 1)] + [fade] * 3)
            told = [parts(self, short_chain(), 3, 0, steps, fade) for steps in range(1, 5)]
            self.assertEqual(told, [(1, 1)] * 4)

    def test_all_marks_the_same(self):
        for steps in range(1, 5):
            for one, other in itertools.product(range(4), repeat=2):
                self.assertEqual(parts(self, great_shares(["zz"] * 4), one, other, steps, (998, 999)), (0, 1))

    def test_great_figures_with_three_like_marks(self):
        for marks in ("aaab", "aaba", "abaa", "baaa"):
            machine = great_shares(list(marks))
            for fade in ((998, 999), (991, 997), (1, 999)):
                table = tables_by(machine, 4, fade)[4]
                for one, other in itertools.combinations(range(4), 2):
                    self.assertEqual(parts(self, machine, one, other, 4, fade), table[one][other])
                    self.assertNotEqual(table[one][other], (0, 1))

    def test_told_alike_twice(self):
        for machine in (coins(), short_chain(), great_shares(list("aaab"))):
            first = strongest(machine, 0, 2, 4)
            strongest(machine, 1, 2, 3, (1, 3))
            self.assertEqual(strongest(machine, 0, 2, 4), first)
            self.assertEqual(strongest(machine, 0, 2, 4, (1, 2)), first)


class Refusals(unittest.TestCase):
    def test_no_machine_ahead_of_all_else(self):
        check_no_machine(self, strongest, 0, 0, 1)
        check_no_machine(self, strongest, 9, None, 0, (1, 1))

    def test_too_many_rooms_ahead_of_rooms(self):
        five = Machine(["a"] * 5, [[(1, 5)] * 5] * 5)
        for machine in (five, six_rooms(), chain()):
            for one, other, steps, fade in ((0, 1, 1, None), (9, 9, 1, None), (0, None, 9, (1, 1)), (0, 0, 1, (1, 1))):
                with self.assertRaises(TooMany):
                    strongest(machine, one, other, steps, fade)
        self.assertIsInstance(strongest(short_chain(), 0, 1, 1), Sheet)

    def test_no_room_ahead_of_numbers(self):
        for steps, fade in ((1, None), (0, (1, 2)), (None, (1, 1)), (4, (1, 1))):
            check_no_room(self, coins(), lambda room: strongest(coins(), room, 1, steps, fade))
            check_no_room(self, coins(), lambda room: strongest(coins(), room, "last", steps, fade))
            check_no_room(self, coins(), lambda room: strongest(coins(), 1, room, steps, fade))
        with self.assertRaises(NoRoom) as caught:
            strongest(coins(), 3, 4, 1)
        self.assertEqual(caught.exception.room, 3)

    def test_no_number_ahead_of_fades(self):
        for steps in NO_WHOLES + [0, -1, 5, 6, 8, 10 ** 59]:
            for fade in [None, (1, 2)] + NO_FADES[:4]:
                with self.assertRaises(NoNumber):
                    strongest(coins(), 0, 2, steps, fade)
                with self.assertRaises(NoNumber):
                    strongest(coins(), 1, 1, steps, fade)

    def test_fades(self):
        for one, other, steps in ((0, 2, 4), (0, 1, 1), (1, 1, 2)):
            check_fades(self, lambda *fade, **named: strongest(coins(), one, other, steps, *fade, **named))
        with self.assertRaises(NoFade):
            strongest(one_room(), 0, 0, 1, (1, 1))

    def test_names_and_left_alone(self):
        named = strongest(fade=(1, 3), steps=3, other=2, one=0, machine=coins())
        self.assertEqual(named, strongest(coins(), 0, 2, 3, (1, 3)))
        check_left_alone(self, strongest, coins(), 0, 2, 3, (1, 3))


if __name__ == "__main__":
    unittest.main()
