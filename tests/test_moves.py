"""Point 23, and of point 3 (f): how far distances move where shares change."""

import itertools
import unittest
from fractions import Fraction

from neartwins.beside import between
from neartwins.distances import distances
from neartwins.errors import NoFade, NoMachine, NoTwins
from neartwins.machines import Machine
from neartwins.moves import most_moved, moved, spread
from neartwins.walking import renamed
from tests.things import (
    FADES, NO_FADES, NO_MACHINES, chain, check_fades, check_left_alone, check_no_machine, coins, great_figures,
    greatest_gap, lasting, number_of, one_room, one_way, pair, random_machines, random_twins, six_rooms,
    telling_machines, with_twins,
)


def changed(machine, room, shares):
    """A machine like this one, but for the shares of a room."""
    rows = machine.shares()
    rows[room] = shares
    return Machine(machine.marks(), rows)


def spread_by_hand(one, other):
    """The spread of twins, by Python's own fractions."""
    return max(
        sum([abs(number_of(share) - number_of(onto)) for share, onto in zip(row, across)], Fraction(0)) / 2
        for row, across in zip(one.shares(), other.shares())
    )


def from_twin_by_hand(one, other, fade):
    """How far a room is at most from its twin, by the spread."""
    much = spread_by_hand(one, other)
    kept = number_of(fade) * (1 - much)
    return number_of(fade) * much / (1 - kept)


def all_twins():
    """Twins of all kinds: the same ones, such with little and with great spreads, and drawn ones."""
    found = [(machine, machine) for machine in telling_machines()]
    found += [(machine, Machine(machine.marks(), machine.shares()[::-1])) for machine in telling_machines()]
    found += [
        (lasting(), changed(lasting(), 0, [(499, 999), (0, 1), (500, 999)])),
        (lasting(), changed(lasting(), 1, [(0, 1), (998, 999), (1, 999)])),
        (chain(), changed(chain(), 4, [(0, 1)] * 4 + [(1, 1), (0, 1)])),
        (coins(), changed(coins(), 2, [(1, 2), (1, 2), (0, 1)])),
    ]
    return found + random_twins(81, 30)


def check_machines(test, call, *behind):
    """That what is no machine is refused in the first and in the second place, ahead of what stands behind."""
    check_no_machine(test, call, coins(), *behind)
    check_no_machine(test, call, None, *behind)
    for thing in NO_MACHINES:
        with test.assertRaises(NoMachine) as caught:
            call(coins(), thing, *behind)
        test.assertEqual((caught.exception.part, caught.exception.number), ("machine", None))


def unlike_twins():
    """Machines with other marks, of as many rooms and of more and fewer."""
    marks = coins().marks()
    return [
        (coins(), lasting()), (coins(), one_way()), (one_way(), coins()), (one_room(), Machine(["b"], [[(1, 1)]])),
        (coins(), Machine(marks[::-1][:1] + marks[:2], coins().shares())), (one_room(), six_rooms()),
        (one_room(), Machine(["a", "a"], [[(1, 2), (1, 2)]] * 2)), (coins(), renamed(coins(), [1, 0, 2])),
    ]


class Spread(unittest.TestCase):
    def test_by_hand(self):
        self.assertEqual(spread(coins(), coins()), (0, 1))
        self.assertEqual(spread(lasting(), changed(lasting(), 0, [(499, 999), (0, 1), (500, 999)])), (1, 1998))
        self.assertEqual(spread(chain(), changed(chain(), 4, [(0, 1)] * 4 + [(1, 1), (0, 1)])), (1, 1))
        # From (1, 4), (1, 4), (1, 2) to (1, 2), (1, 2), (0, 1) half of all is carried.
        self.assertEqual(spread(coins(), changed(coins(), 2, [(1, 2), (1, 2), (0, 1)])), (1, 2))
        self.assertEqual(spread(one_room(), one_room()), (0, 1))

    def test_the_greatest_over_all_rooms(self):
        for one, other in all_twins():
            self.assertEqual(spread(one, other), pair(spread_by_hand(one, other)))
            self.assertEqual(spread(other, one), spread(one, other))
        for room, steps in enumerate(([(1, 1), (0, 1), (0, 1)], [(0, 1), (0, 1), (1, 1)], [(0, 1), (1, 1), (0, 1)])):
            told = spread(coins(), changed(coins(), room, steps))
            self.assertEqual(told, [(1, 2), (1, 3), (3, 4)][room])

    def test_refusals(self):
        check_machines(self, spread)
        for one, other in unlike_twins():
            with self.assertRaises(NoTwins):
                spread(one, other)

    def test_names_and_left_alone(self):
        self.assertEqual(spread(other=changed(coins(), 2, [(1, 2), (1, 2), (0, 1)]), one=coins()), (1, 2))
        check_left_alone(self, spread, coins(), changed(coins(), 2, [(1, 2), (1, 2), (0, 1)]))


class MostMoved(unittest.TestCase):
    def test_by_hand(self):
        for fade in FADES:
            self.assertEqual(most_moved(coins(), coins(), fade), (0, 1))
        # The spread is 1/2, so g is 1/4; a half times a half over 3/4 is 1/3, twice that 2/3.
        other = changed(coins(), 2, [(1, 2), (1, 2), (0, 1)])
        self.assertEqual(most_moved(coins(), other), (2, 3))
        self.assertEqual(most_moved(coins(), other, (2, 3)), (1, 1))
        self.assertEqual(most_moved(coins(), other, (1, 999)), (2, 1997))
        # With a spread of one g is nought, and twice the fade is the most, if that is below one.
        far = changed(chain(), 4, [(0, 1)] * 4 + [(1, 1), (0, 1)])
        told = [most_moved(chain(), far, fade) for fade in ((1, 3), (499, 999), (1, 2), (500, 999), (998, 999))]
        self.assertEqual(told, [(2, 3), (998, 999), (1, 1), (1, 1), (1, 1)])

    def test_by_the_spread(self):
        for one, other in all_twins():
            for fade in FADES:
                most = min(2 * from_twin_by_hand(one, other, fade), Fraction(1))
                self.assertEqual(most_moved(one, other, fade), pair(most))
                self.assertEqual(most_moved(other, one, fade), pair(most))

    def test_no_room_is_farther_from_its_twin(self):
        met = 0
        for one, other in all_twins():
            if len(one) <= 3:
                for fade in FADES[:3]:
                    gaps = between(one, other, fade)
                    for room in range(len(one)):
                        self.assertLessEqual(number_of(gaps[room][room]), from_twin_by_hand(one, other, fade))
                        met += 1
        self.assertGreater(met, 50)


class Moved(unittest.TestCase):
    def test_by_hand(self):
        self.assertEqual(moved(coins(), coins()), (0, 1))
        # By the other one's shares room 2 goes on just as room 0 does: from 1/7 to nought.
        self.assertEqual(moved(coins(), changed(coins(), 2, [(1, 2), (1, 2), (0, 1)])), (1, 7))
        self.assertEqual(moved(chain(), changed(chain(), 4, [(0, 1)] * 4 + [(1, 1), (0, 1)]), (2, 3)), (2, 3))

    def test_the_greatest_move(self):
        for one, other in all_twins():
            for fade in FADES:
                told = moved(one, other, fade)
                self.assertEqual(told, pair(greatest_gap(distances(one, fade), distances(other, fade))))
                self.assertEqual(moved(other, one, fade), told)

    def test_never_more_than_told(self):
        met = set()
        for one, other in all_twins() + random_twins(82, 40):
            for fade in FADES:
                most, told = number_of(most_moved(one, other, fade)), number_of(moved(one, other, fade))
                self.assertLessEqual(told, most)
                met.add((told == 0, most == 1))
        self.assertEqual(met, set(itertools.product((False, True), repeat=2)))

    def test_great_figures(self):
        other = changed(great_figures(), 3, six_rooms().shares_of(2))
        told = moved(great_figures(), other, (998, 999))
        self.assertGreater(told[1], 10 ** 60)


class Refusals(unittest.TestCase):
    def test_machines_then_twins_then_fades(self):
        for call in (most_moved, moved):
            check_machines(self, call)
            check_machines(self, call, (1, 1))
            for one, other in unlike_twins():
                for fade in [None, (1, 3)] + NO_FADES[:5]:
                    with self.assertRaises(NoTwins):
                        call(one, other, fade)
            for one, other in ((coins(), coins()), (with_twins(), Machine(with_twins().marks(), [[(1, 6)] * 6] * 6))):
                check_fades(self, lambda *fade, **named: call(one, other, *fade, **named))
            with self.assertRaises(NoFade):
                call(one_room(), one_room(), (1, 1))

    def test_names_and_left_alone(self):
        for call in (most_moved, moved):
            for one, other in all_twins()[:10]:
                check_left_alone(self, call, one, other, (1, 3))
                self.assertEqual(call(fade=(1, 3), other=other, one=one), call(one, other, (1, 3)))


class GreaterFades(unittest.TestCase):
    def test_no_distance_is_less(self):
        fades = sorted(FADES, key=number_of)
        for machine in random_machines(83, 15):
            for lesser, greater in zip(fades, fades[1:]):
                for row, across in zip(distances(machine, lesser), distances(machine, greater)):
                    for gap, other in zip(row, across):
                        self.assertLessEqual(number_of(gap), number_of(other))


if __name__ == "__main__":
    unittest.main()
