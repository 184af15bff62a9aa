"""Point 24, and of point 3 (g): a keeper of a machine that changes."""

import itertools
import random
import unittest

from neartwins.distances import distance, distances, near
from neartwins.errors import NoDeed, NoFade, NoMachine, NoMark, NoRoom, NoShares
from neartwins.keeper import Keeper
from neartwins.lumps import lumps
from neartwins.machines import Machine
from tests.things import (
    FADES, NO_FADES, NO_FRACTIONS, NO_LISTS, NO_MARKS, check_fades, check_left_alone, check_no_machine,
    check_no_room, check_own_lists, coins, great_figures, greatest_gap, lasting, one_room, one_way, pair,
    random_machines, random_shares, six_rooms, telling_machines, unlike_lengths, with_each_place, with_twins,
)

BEYOND = [(-1, 2), (2, 1), (3, 2), (1, 1000), (999, 1000), (1000, 999), (10 ** 59, 1), (1, 10 ** 59)]


def no_shares(good):
    """What are no shares of a room, put together from such of three or more fractions as are some."""
    wrong = NO_LISTS + NO_FRACTIONS + unlike_lengths(good) + [tuple(good), good + [(0, 1)], dict(enumerate(good))]
    wrong += [changed for place, thing, changed in with_each_place(good, NO_FRACTIONS + BEYOND)]
    return wrong + [[(1, 1)] * len(good), [(0, 1)] * len(good), [(1, 2)] * len(good)]


def gap(one, other):
    """How far the distances of two keepers' machines are apart at most, made anew."""
    return pair(greatest_gap(distances(one.machine(), one.fade()), distances(other.machine(), other.fade())))


def all_told(keeper):
    """All that a keeper tells, but what it can undo."""
    rooms = range(len(keeper.machine()))
    return (
        keeper.machine().marks(), keeper.machine().shares(), keeper.fade(), keeper.table(),
        [keeper.far(one, other) for one in rooms for other in rooms], [keeper.near(room) for room in rooms],
        keeper.lumps(), repr(keeper), str(keeper),
    )


def check_as_made_anew(test, keeper, machine, fade):
    """That a keeper tells just what is told of its machine and fade."""
    test.assertEqual((keeper.machine(), keeper.fade()), (machine, fade))
    test.assertIsInstance(keeper.machine(), Machine)
    table = distances(machine, fade)
    test.assertEqual(keeper.table(), table)
    for one, other in itertools.product(range(len(machine)), repeat=2):
        test.assertEqual(keeper.far(one, other), table[one][other])
    for room in range(len(machine)):
        test.assertEqual(keeper.near(room), near(machine, room, fade))
    test.assertEqual(keeper.lumps(), lumps(machine))
    test.assertEqual(repr(keeper), f"Keeper({machine!r}, {fade!r})")
    test.assertEqual(str(keeper), str(machine))
    test.assertIs(keeper == Keeper(machine, fade), True)


def random_deed(source, keeper):
    """One of the deeds that change something, with what is handed in."""
    machine = keeper.machine()
    room = source.randrange(len(machine))
    row = random_shares(source, len(machine), source.choice([1, 2, 3, 7, 999]))
    return source.choice([
        (keeper.mark, (room, source.choice(["a", "b", "zzzz"]))), (keeper.steps, (room, row)),
        (keeper.steps, (room, machine.shares_of(room))), (keeper.fade_to, (source.choice(FADES + [None]),)),
        (keeper.mark, (room, machine.mark(room))), (keeper.fade_to, (keeper.fade(),)),
    ])


class Made(unittest.TestCase):
    def test_of_a_machine_and_a_fade(self):
        for machine in telling_machines():
            for fade in FADES[:3]:
                keeper = Keeper(machine, fade)
                self.assertEqual(len(keeper), 0)
                check_as_made_anew(self, keeper, machine, fade)

    def test_refusals_and_fades(self):
        check_no_machine(self, Keeper)
        for fade in (None, (1, 2), (1, 1), "fade"):
            check_no_machine(self, Keeper, fade)
        check_fades(self, lambda *fade, **named: Keeper(coins(), *fade, **named))
        self.assertEqual(Keeper(fade=(1, 3), machine=coins()).fade(), (1, 3))
        self.assertEqual(Keeper(coins()).fade(), (1, 2))

    def test_no_keeper_is_no_machine(self):
        with self.assertRaises(NoMachine):
            Keeper(Keeper(coins()))

    def test_methods_stand_in_the_class(self):
        names = "mark steps fade_to undo machine fade table far near lumps twin __eq__ __len__ __repr__ __str__"
        for name in names.split():
            self.assertIn(name, vars(Keeper))


class Deeds(unittest.TestCase):
    def test_by_hand(self):
        keeper = Keeper(lasting())
        self.assertEqual(keeper.fade_to((2, 3)), (1, 6))
        self.assertEqual(keeper.far(0, 1), (1, 2))
        # Room 1 now goes on to 0 for sure: half of what 0 has goes to 2 in its stead.
        self.assertEqual(keeper.steps(1, [(1, 1), (0, 1), (0, 1)]), (1, 6))
        self.assertEqual(keeper.near(1), [((1, 3), 0), ((1, 1), 2)])
        self.assertEqual(keeper.mark(2, "a"), (1, 1))
        self.assertEqual(keeper.lumps(), [[0, 1, 2]])
        self.assertEqual(keeper.mark(1, "zzzz"), (1, 1))
        self.assertEqual(keeper.machine().marks(), ["a", "zzzz", "a"])
        self.assertEqual(len(keeper), 4)
        self.assertEqual([keeper.undo() for deed in range(4)], [(1, 1), (1, 1), (1, 6), (1, 6)])
        self.assertEqual(keeper, Keeper(lasting()))
        self.assertEqual(len(keeper), 0)

    def test_deeds_by_which_nothing_is_another_one(self):
        for machine in telling_machines():
            keeper = Keeper(machine, (2, 3))
            before = all_told(keeper)
            for room in range(len(machine)):
                self.assertEqual(keeper.mark(room, machine.mark(room)), (0, 1))
                self.assertEqual(keeper.steps(room, machine.shares_of(room)), (0, 1))
            self.assertEqual(keeper.fade_to((2, 3)), (0, 1))
            self.assertEqual(len(keeper), 2 * len(machine) + 1)
            self.assertEqual(all_told(keeper), before)
            for left in range(2 * len(machine), -1, -1):
                self.assertEqual(keeper.undo(), (0, 1))
                self.assertEqual(len(keeper), left)
            self.assertEqual(all_told(keeper), before)

    def test_a_deed_by_which_something_but_no_distance_is_another_one(self):
        keeper = Keeper(one_room())
        self.assertEqual([keeper.mark(0, "b"), keeper.fade_to((1, 3))], [(0, 1), (0, 1)])
        self.assertEqual((keeper.machine().marks(), keeper.fade(), len(keeper)), (["b"], (1, 3), 2))

    def test_no_fade_is_a_deed_to_a_half(self):
        keeper = Keeper(lasting(), (2, 3))
        self.assertEqual(keeper.fade_to(None), (1, 6))
        self.assertEqual((keeper.fade(), len(keeper)), ((1, 2), 1))
        self.assertEqual(keeper.fade_to(None), (0, 1))
        self.assertEqual((keeper.fade(), len(keeper)), ((1, 2), 2))
        self.assertEqual([keeper.undo(), keeper.undo()], [(0, 1), (1, 6)])
        self.assertEqual(keeper.fade(), (2, 3))

    def test_undo_can_not_be_undone(self):
        keeper = Keeper(coins())
        keeper.mark(0, "b")
        keeper.mark(0, "c")
        keeper.undo()
        self.assertEqual((keeper.machine().mark(0), len(keeper)), ("b", 1))
        keeper.undo()
        self.assertEqual((keeper.machine().mark(0), len(keeper)), ("a", 0))
        with self.assertRaises(NoDeed):
            keeper.undo()
        self.assertEqual(keeper, Keeper(coins()))

    def test_whatever_is_done_and_undone(self):
        source = random.Random(91)
        for machine in telling_machines() + random_machines(92, 12):
            keeper = Keeper(machine, source.choice(FADES))
            states = [(keeper.machine(), keeper.fade())]
            for turn in range(14):
                before = Keeper(keeper.machine(), keeper.fade())
                if source.randrange(3) == 0 and len(states) > 1:
                    move = keeper.undo()
                    states.pop()
                else:
                    deed, handed = random_deed(source, keeper)
                    move = deed(*handed)
                    states.append((keeper.machine(), keeper.fade()))
                self.assertEqual(move, gap(before, keeper))
                self.assertEqual(len(keeper), len(states) - 1)
                check_as_made_anew(self, keeper, *states[-1])
            while len(states) > 1:
                before = Keeper(*states.pop())
                self.assertEqual(keeper.undo(), gap(before, keeper))
                check_as_made_anew(self, keeper, *states[-1])
            with self.assertRaises(NoDeed):
                keeper.undo()

    def test_what_each_deed_changes(self):
        keeper = Keeper(six_rooms(), (1, 3))
        marks, shares = six_rooms().marks(), six_rooms().shares()
        for room in range(6):
            keeper.mark(room, "qq")
            marks[room] = "qq"
            self.assertEqual(keeper.machine(), Machine(marks, shares))
            keeper.steps(room, [(0, 1)] * 5 + [(1, 1)])
            shares[room] = [(0, 1)] * 5 + [(1, 1)]
            self.assertEqual((keeper.machine(), keeper.fade()), (Machine(marks, shares), (1, 3)))
        keeper.fade_to((998, 999))
        self.assertEqual((keeper.machine(), keeper.fade()), (Machine(marks, shares), (998, 999)))

    def test_many_deeds(self):
        keeper = Keeper(lasting())
        for turn in range(300):
            keeper.fade_to((1, 2 + turn))
        self.assertEqual(len(keeper), 300)
        for turn in range(299, -1, -1):
            self.assertEqual(keeper.fade(), (1, 2 + turn))
            keeper.undo()
        self.assertEqual((keeper, len(keeper)), (Keeper(lasting()), 0))

    def test_by_names(self):
        keeper = Keeper(lasting())
        keeper.mark(mark="b", room=0)
        keeper.steps(shares=[(0, 1), (0, 1), (1, 1)], room=1)
        keeper.fade_to(fade=(1, 3))
        self.assertEqual(keeper.machine().marks(), ["b", "a", "b"])
        self.assertEqual(keeper.machine().shares_of(1), [(0, 1), (0, 1), (1, 1)])
        self.assertEqual(keeper.fade(), (1, 3))
        self.assertEqual(keeper.far(other=1, one=0), distance(keeper.machine(), 0, 1, (1, 3)))
        self.assertEqual(keeper.near(room=2), near(keeper.machine(), 2, (1, 3)))


class Refusals(unittest.TestCase):
    def setUp(self):
        self.keeper = Keeper(coins(), (2, 3))
        self.keeper.mark(1, "a")
        self.before = all_told(self.keeper)

    def tearDown(self):
        self.assertEqual(all_told(self.keeper), self.before)
        self.assertEqual(len(self.keeper), 1)
        self.keeper.undo()
        self.assertEqual((self.keeper, len(self.keeper)), (Keeper(coins(), (2, 3)), 0))

    def test_rooms_ahead_of_marks_and_shares(self):
        for thing in ("b", "B", None, [], 0):
            check_no_room(self, coins(), lambda room: self.keeper.mark(room, thing))
        for thing in ([(1, 1), (0, 1), (0, 1)], [], None, "a", [(1, 2)]):
            check_no_room(self, coins(), lambda room: self.keeper.steps(room, thing))

    def test_no_marks(self):
        for place, thing in enumerate(NO_MARKS):
            with self.subTest(place=place), self.assertRaises(NoMark):
                self.keeper.mark(place % 3, thing)

    def test_no_shares(self):
        for room in range(3):
            for place, thing in enumerate(no_shares(coins().shares_of(room))):
                with self.subTest(place=place), self.assertRaises(NoShares):
                    self.keeper.steps(room, thing)

    def test_no_fades(self):
        for place, thing in enumerate(NO_FADES):
            with self.subTest(place=place), self.assertRaises(NoFade):
                self.keeper.fade_to(thing)

    def test_far_and_near(self):
        check_no_room(self, coins(), self.keeper.near)
        check_no_room(self, coins(), lambda room: self.keeper.far(room, 1))
        check_no_room(self, coins(), lambda room: self.keeper.far(room, "last"))
        check_no_room(self, coins(), lambda room: self.keeper.far(1, room))
        with self.assertRaises(NoRoom) as caught:
            self.keeper.far(3, 4)
        self.assertEqual(caught.exception.room, 3)

    def test_nothing_to_undo(self):
        for keeper in (Keeper(coins()), Keeper(one_room()), self.keeper.twin()):
            while len(keeper):
                keeper.undo()
            before = all_told(keeper)
            for again in range(3):
                with self.assertRaises(NoDeed):
                    keeper.undo()
            self.assertEqual((all_told(keeper), len(keeper)), (before, 0))


class Twins(unittest.TestCase):
    def test_the_same_machine_fade_and_deeds(self):
        keeper = Keeper(coins())
        keeper.mark(0, "b")
        keeper.fade_to((1, 3))
        keeper.steps(2, [(1, 1), (0, 1), (0, 1)])
        twin = keeper.twin()
        self.assertIsInstance(twin, Keeper)
        self.assertIsNot(twin, keeper)
        self.assertEqual((twin, len(twin)), (keeper, 3))
        self.assertEqual(all_told(twin), all_told(keeper))
        self.assertEqual([twin.undo() for deed in range(3)], [keeper.undo() for deed in range(3)])
        self.assertEqual((twin, keeper), (Keeper(coins()), Keeper(coins())))

    def test_nothing_done_to_one_changes_the_other(self):
        keeper = Keeper(with_twins(), (2, 3))
        keeper.mark(0, "b")
        twin = keeper.twin()
        before = all_told(keeper)
        twin.undo()
        self.assertEqual((all_told(keeper), len(keeper), len(twin)), (before, 1, 0))
        twin.mark(3, "c")
        twin.steps(0, [(1, 1)] + [(0, 1)] * 5)
        twin.fade_to((1, 3))
        self.assertEqual((all_told(keeper), len(keeper), len(twin)), (before, 1, 3))
        before = all_told(twin)
        keeper.undo()
        keeper.fade_to(None)
        keeper.fade_to((1, 999))
        self.assertEqual((all_told(twin), len(twin), len(keeper)), (before, 3, 2))
        for deed in range(3):
            twin.undo()
        self.assertEqual(twin, Keeper(with_twins(), (2, 3)))

    def test_a_twin_of_a_twin(self):
        keeper = Keeper(coins())
        keeper.mark(0, "b")
        other = keeper.twin().twin()
        other.undo()
        self.assertEqual((len(keeper), len(other), other), (1, 0, Keeper(coins())))


class Showing(unittest.TestCase):
    def test_equality(self):
        keeper = Keeper(coins(), (1, 3))
        other = Keeper(coins())
        self.assertIs(keeper == other, False)
        other.fade_to((1, 3))
        # What can be undone is not looked at.
        self.assertIs(keeper == other, True)
        self.assertIs(keeper != other, False)
        other.mark(0, "c")
        self.assertIs(keeper == other, False)
        other.undo()
        other.steps(0, [(1, 1), (0, 1), (0, 1)])
        self.assertIs(keeper == other, False)
        for thing in NO_LISTS + NO_FRACTIONS + [coins(), (coins(), (1, 3)), repr(keeper), str(keeper)]:
            self.assertIs(keeper == thing, False)
            self.assertIs(keeper != thing, True)

    def test_repr_and_str(self):
        keeper = Keeper(one_way())
        self.assertEqual(repr(keeper), f"Keeper({one_way()!r}, (1, 2))")
        self.assertEqual(str(keeper), str(one_way()))
        self.assertEqual(eval(repr(keeper)), keeper)
        self.assertEqual(repr(Keeper(one_room(), (998, 999))), "Keeper(Machine(['a'], [[(1, 1)]]), (998, 999))")
        self.assertEqual(str(Keeper(one_room())), "a 0:1")


class OwnCopies(unittest.TestCase):
    def test_told_lists(self):
        for machine in telling_machines():
            keeper = Keeper(machine, (2, 3))
            before = all_told(keeper)
            check_own_lists(self, keeper.table)
            check_own_lists(self, keeper.lumps)
            check_own_lists(self, lambda: keeper.near(0))
            check_own_lists(self, keeper.machine().shares)
            self.assertEqual(all_told(keeper), before)

    def test_what_is_handed_in(self):
        keeper = Keeper(coins())
        shares = [(1, 1), (0, 1), (0, 1)]
        keeper.steps(2, shares)
        shares[0] = shares[1] = (1, 2)
        shares.append("more")
        self.assertEqual(keeper.machine().shares_of(2), [(1, 1), (0, 1), (0, 1)])
        check_left_alone(self, keeper.steps, 2, [(1, 2), (1, 2), (0, 1)])
        check_left_alone(self, keeper.steps, 2, [(1, 2), (1, 2), (1, 2)])
        check_left_alone(self, Keeper, great_figures(), (1, 3))

    def test_machines_told_and_handed_in_stay(self):
        machine = coins()
        keeper = Keeper(machine)
        told = keeper.machine()
        keeper.mark(0, "c")
        keeper.steps(1, [(1, 1), (0, 1), (0, 1)])
        self.assertEqual((machine, told), (coins(), coins()))
        # Even a machine that is made anew in its place leaves the keeper as it was.
        keeper = Keeper(machine)
        machine.__init__(["b"], [[(1, 1)]])
        self.assertEqual(keeper, Keeper(coins()))


if __name__ == "__main__":
    unittest.main()
