"""Points 2 and 5: marks and machines."""

import copy
import unittest

from neartwins.errors import NoMachine
from neartwins.machines import Machine, is_mark
from tests.things import (
    NO_FRACTIONS, NO_LISTS, NO_MARKS, Odd, check_left_alone, check_no_room, check_own_lists, coins, one_room, one_way,
    sample_machines, six_rooms, unlike_lengths, with_each_place,
)

LETTERS = "abcdefghijklmnopqrstuvwxyz"
BEYOND_SHARES = [
    (-1, 2), (-1, 1), (2, 1), (3, 2), (1000, 999), (1, 1000), (999, 1000), (1, 10 ** 59), (10 ** 59, 1),
]
# Each is a list of three shares that would do but for one thing.
NO_SHARES_OF_THREE = [
    [(1, 2), (1, 2), (1, 2)],
    [(0, 1), (0, 1), (0, 1)],
    [(1, 1), (1, 1), (0, 1)],
    [(1, 2), (1, 3), (1, 7)],
    [(1, 3), (1, 3), (332, 999)],
    [(1, 2), (1, 2), (0, 2)],
    [(1, 2), (2, 4), (0, 1)],
    [(2, 1), (-1, 1), (0, 1)],
    [(3, 2), (-1, 2), (0, 1)],
    [(1, 1), (-1, 2), (1, 2)],
    [(-1, 1), (1, 1), (1, 1)],
    [(1, 1000), (999, 1000), (0, 1)],
    [(1, 1), (0, 1), 0],
    [(1, 1), (0, 1), False],
    [1, 0, 0],
    [[1, 1], [0, 1], [0, 1]],
    ["1", "0", "0"],
]


def refused(marks, shares):
    """The part and the number with which a machine of these is refused."""
    try:
        Machine(marks, shares)
    except NoMachine as why:
        return (why.part, why.number)
    return None


class Marks(unittest.TestCase):
    def test_marks(self):
        for letter in LETTERS:
            for many in (1, 2, 3, 4):
                self.assertIs(is_mark(letter * many), True)
        for mark in ("az", "zza", "abcd", "wxyz"):
            self.assertIs(is_mark(mark), True)

    def test_no_marks(self):
        for place, thing in enumerate(NO_MARKS):
            with self.subTest(place=place):
                self.assertIs(is_mark(thing), False)

    def test_every_sign(self):
        for code in [9, 10] + list(range(32, 127)):
            sign = chr(code)
            for text in (sign, "a" + sign, sign + "z", "ab" + sign + "z"):
                self.assertIs(is_mark(text), sign in LETTERS, text)

    def test_by_name(self):
        self.assertIs(is_mark(thing="a"), True)


class Telling(unittest.TestCase):
    def test_one_room(self):
        machine = Machine(["a"], [[(1, 1)]])
        self.assertEqual(machine.marks(), ["a"])
        self.assertEqual(machine.shares(), [[(1, 1)]])
        self.assertEqual(machine.mark(0), "a")
        self.assertEqual(machine.shares_of(0), [(1, 1)])
        self.assertEqual(len(machine), 1)

    def test_six_rooms(self):
        marks = ["a", "zz", "abc", "abcd", "a", "z"]
        shares = [
            [(1, 6), (1, 6), (1, 6), (1, 6), (1, 6), (1, 6)],
            [(0, 1), (0, 1), (0, 1), (0, 1), (0, 1), (1, 1)],
            [(1, 2), (1, 4), (1, 8), (1, 16), (1, 32), (1, 32)],
            [(1, 999), (0, 1), (998, 999), (0, 1), (0, 1), (0, 1)],
            [(1, 2), (1, 3), (0, 1), (1, 7), (0, 1), (1, 42)],
            [(1, 3), (0, 1), (1, 4), (0, 1), (5, 12), (0, 1)],
        ]
        machine = Machine(marks, shares)
        self.assertEqual(machine.marks(), marks)
        self.assertEqual(machine.shares(), shares)
        self.assertEqual(len(machine), 6)
        for room in range(6):
            self.assertEqual(machine.mark(room), marks[room])
            self.assertEqual(machine.shares_of(room), shares[room])

    def test_every_number_of_rooms(self):
        for many in range(1, 7):
            shares = [[(1, many)] * many for room in range(many)]
            self.assertEqual(len(Machine(["a"] * many, shares)), many)

    def test_by_names(self):
        machine = Machine(shares=[[(1, 1)]], marks=["a"])
        self.assertEqual(machine, one_room())
        self.assertEqual(machine.mark(room=0), "a")
        self.assertEqual(machine.shares_of(room=0), [(1, 1)])

    def test_no_rooms(self):
        for machine in sample_machines():
            check_no_room(self, machine, machine.mark)
            check_no_room(self, machine, machine.shares_of)

    def test_methods_stand_in_the_class(self):
        for name in ("marks", "shares", "mark", "shares_of", "__eq__", "__len__", "__repr__", "__str__"):
            self.assertIn(name, vars(Machine))


class Showing(unittest.TestCase):
    def test_repr(self):
        self.assertEqual(repr(one_room()), "Machine(['a'], [[(1, 1)]])")
        for machine in sample_machines():
            self.assertEqual(repr(machine), f"Machine({machine.marks()!r}, {machine.shares()!r})")
            self.assertEqual(eval(repr(machine)), machine)

    def test_str(self):
        self.assertEqual(str(one_room()), "a 0:1")
        self.assertEqual(str(coins()), "a 0:1/2 1:1/2\nb 1:1/3 2:2/3\na 0:1/4 1:1/4 2:1/2")
        self.assertEqual(str(one_way()), "go 1:1/2 2:1/2\ngo 2:1\nstop 2:1\nend 0:1/999 3:998/999")
        self.assertEqual(
            str(six_rooms()),
            "a 0:1/6 1:1/6 2:1/6 3:1/6 4:1/6 5:1/6\n"
            "b 1:997/999 2:2/999\n"
            "abcd 0:1/2 1:1/4 2:1/8 3:1/16 4:1/32 5:1/32\n"
            "a 5:1\n"
            "zzzz 0:1/3 2:1/3 4:1/3\n"
            "b 0:1/10 1:2/5 2:1/100 3:9/100 4:3/20 5:1/4",
        )


class Equality(unittest.TestCase):
    def test_the_same(self):
        for machine in sample_machines():
            twin = Machine(machine.marks(), machine.shares())
            self.assertIs(machine == machine, True)
            self.assertIs(machine == twin, True)
            self.assertIs(machine != twin, False)

    def test_another_machine(self):
        samples = sample_machines()
        for place, one in enumerate(samples):
            for at, other in enumerate(samples):
                self.assertIs(one == other, place == at)

    def test_one_mark_or_one_share_put_otherwise(self):
        for machine in sample_machines():
            for place in range(len(machine)):
                marks = machine.marks()
                marks[place] = "qq"
                self.assertIs(machine == Machine(marks, machine.shares()), False)
                shares = machine.shares()
                shares[place] = shares[place][1:] + shares[place][:1]
                if shares != machine.shares():
                    self.assertIs(machine == Machine(machine.marks(), shares), False)

    def test_anything_else(self):
        for machine in sample_machines():
            things = [(machine.marks(), machine.shares()), [machine.marks(), machine.shares()], repr(machine), str(machine)]
            for thing in things + NO_LISTS + NO_FRACTIONS + [[], ["a"]]:
                self.assertIs(machine == thing, False)
                self.assertIs(machine != thing, True)


class WrongMarks(unittest.TestCase):
    def test_no_list(self):
        for thing in NO_LISTS + [("a",), "a", {0: "a"}]:
            self.assertEqual(refused(thing, [[(1, 1)]]), ("marks", None))

    def test_too_few_and_too_many(self):
        self.assertEqual(refused([], []), ("marks", None))
        self.assertEqual(refused(["a"] * 7, [[(1, 7)] * 7] * 7), ("marks", None))
        self.assertEqual(refused([None] * 7, [[(1, 7)] * 7] * 7), ("marks", None))
        self.assertEqual(refused(["a"] * 2000, []), ("marks", None))

    def test_at_each_place(self):
        for machine in sample_machines():
            for place, wrong, marks in with_each_place(machine.marks(), NO_MARKS):
                self.assertEqual(refused(marks, machine.shares()), ("marks", place))

    def test_the_first_is_told(self):
        self.assertEqual(refused(["a", "B", "c", ""], [[(1, 4)] * 4] * 4), ("marks", 1))
        self.assertEqual(refused([None, "B", "c", ""], [[(1, 4)] * 4] * 4), ("marks", 0))

    def test_ahead_of_the_shares(self):
        for shares in NO_LISTS + [[], [[]], [[(1, 2)]]]:
            self.assertEqual(refused(["A"], shares), ("marks", 0))
            self.assertEqual(refused(None, shares), ("marks", None))


class WrongShares(unittest.TestCase):
    def test_no_list(self):
        for thing in NO_LISTS + [([(1, 1)],), {0: [(1, 1)]}]:
            self.assertEqual(refused(["a"], thing), ("shares", None))

    def test_too_few_and_too_many(self):
        for machine in sample_machines():
            for shares in unlike_lengths(machine.shares()):
                self.assertEqual(refused(machine.marks(), shares), ("shares", None))

    def test_no_list_of_shares_at_each_place(self):
        for machine in sample_machines():
            for place, wrong, shares in with_each_place(machine.shares(), NO_LISTS + [(1, 1), tuple(machine.shares_of(0))]):
                self.assertEqual(refused(machine.marks(), shares), ("shares", place))

    def test_lists_of_unlike_lengths_at_each_place(self):
        for machine in sample_machines():
            for place in range(len(machine)):
                # A nought more leaves the sum as it is, so that only the length is wrong.
                for row in unlike_lengths(machine.shares_of(place)) + [machine.shares_of(place) + [(0, 1)]]:
                    shares = machine.shares()
                    shares[place] = row
                    self.assertEqual(refused(machine.marks(), shares), ("shares", place))

    def test_one_share_wrong_at_each_place(self):
        for machine in sample_machines():
            for place in range(len(machine)):
                for at, wrong, row in with_each_place(machine.shares_of(place), NO_FRACTIONS + BEYOND_SHARES):
                    shares = machine.shares()
                    shares[place] = row
                    self.assertEqual(refused(machine.marks(), shares), ("shares", place))

    def test_sums_and_forms(self):
        for row in NO_SHARES_OF_THREE:
            for place in range(3):
                shares = [[(1, 3), (1, 3), (1, 3)] for room in range(3)]
                shares[place] = row
                self.assertEqual(refused(["a", "b", "c"], shares), ("shares", place))

    def test_the_first_is_told(self):
        good = [(1, 3), (1, 3), (1, 3)]
        self.assertEqual(refused(["a", "b", "c"], [good, None, []]), ("shares", 1))
        self.assertEqual(refused(["a", "b", "c"], [[], good, None]), ("shares", 0))
        self.assertEqual(refused(["a", "b", "c"], [good, good, Odd()]), ("shares", 2))

    def test_three_figures(self):
        self.assertIsNone(refused(["a", "b"], [[(998, 999), (1, 999)], [(1, 1), (0, 1)]]))
        self.assertEqual(refused(["a", "b"], [[(999, 1000), (1, 1000)], [(1, 1), (0, 1)]]), ("shares", 0))
        self.assertEqual(refused(["a", "b"], [[(1, 1), (0, 1)], [(999, 1000), (1, 1000)]]), ("shares", 1))

    def test_one_only_together(self):
        self.assertIsNone(refused(["a", "b", "c"], [[(1, 2), (1, 3), (1, 6)]] * 3))
        self.assertEqual(refused(["a", "b", "c"], [[(1, 2), (1, 3), (1, 7)]] * 3), ("shares", 0))


class OwnCopies(unittest.TestCase):
    def test_what_is_handed_in_stays_as_it_was(self):
        for machine in sample_machines():
            check_left_alone(self, Machine, machine.marks(), machine.shares())
        check_left_alone(self, Machine, ["a", "B"], [[(1, 1)], [(1, 2)]])
        check_left_alone(self, Machine, ["a", "b"], [[(1, 1), (0, 1)], [(1, 2), (1, 3)]])

    def test_changing_what_was_handed_in(self):
        for machine in sample_machines():
            marks, shares = machine.marks(), machine.shares()
            made = Machine(marks, shares)
            marks[0] = "changed"
            marks.append("more")
            shares[0][0] = "changed"
            shares[-1].append((1, 1))
            shares.append([])
            self.assertEqual(made, machine)
            self.assertEqual(len(made), len(machine))
            self.assertEqual(repr(made), repr(machine))
            self.assertEqual(str(made), str(machine))

    def test_one_list_handed_in_at_two_places(self):
        row = [(1, 2), (1, 2)]
        made = Machine(["a", "b"], [row, row])
        check_own_lists(self, made.shares)

    def test_told_lists(self):
        for machine in sample_machines():
            shown = repr(machine)
            check_own_lists(self, machine.marks)
            check_own_lists(self, machine.shares)
            for room in range(len(machine)):
                check_own_lists(self, lambda: machine.shares_of(room))
            self.assertEqual(repr(machine), shown)

    def test_refusals_change_nothing(self):
        machine = coins()
        kept = copy.deepcopy(machine)
        check_no_room(self, machine, machine.mark)
        check_no_room(self, machine, machine.shares_of)
        self.assertEqual(machine, kept)
        self.assertEqual(repr(machine), repr(kept))


if __name__ == "__main__":
    unittest.main()
