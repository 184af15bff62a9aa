"""Point 21, and of points 3 (e) and 22 what speaks of every sheet."""

import itertools
import math
import random
import sys
import unittest

from neartwins.distances import distances
from neartwins.errors import NoMachine, NoSheet
from neartwins.machines import Machine
from neartwins.sheets import Sheet
from neartwins.tables import tables_by
from tests.things import (
    FADES, NO_FADES, NO_FRACTIONS, NO_LISTS, NO_MACHINES, NO_MARKS, NO_WHOLES, Odd, check_fades, check_in_good_time,
    check_left_alone, check_own_lists, coins, great_figures, lasting, number_of, one_room, one_way, pair,
    random_machines, random_rows, six_rooms, telling_machines, unlike_lengths, values_by_hand, with_each_place,
    with_twins,
)

# A row of each word, the last number it may have at row 6 among them.
GOOD = [
    ("mark", "a"), ("next", 0), ("not", 1), ("less", 2, (1, 3)), ("least", 3, 1), ("most", 0, 4), ("least", 5, 5),
]


def refused(rows):
    """The number with which a sheet of these rows is refused."""
    try:
        Sheet(rows)
    except NoSheet as why:
        return (why.number,)
    return None


def wrong_rows(number):
    """What can't be the row with this number, from 1 on."""
    wrong = NO_LISTS + NO_FRACTIONS + NO_WHOLES + [0, 1, -1, [], {}, "mark"]
    words = ("mark", "next", "not", "less", "least", "most")
    wrong += [(word,) for word in words] + [word for word in words]
    wrong += [("mark", mark) for mark in NO_MARKS] + [("mark", "a", "b"), ("mark", "a", 0), ("mark", 0)]
    no_numbers = NO_WHOLES + [number, number + 1, -1, -number, 1500, 10 ** 59]
    for word in ("next", "not"):
        wrong += [(word, thing) for thing in no_numbers] + [(word, 0, 0), (word, 0, (0, 1)), [word, 0]]
    no_cuts = NO_FRACTIONS + [(-1, 2), (3, 2), (2, 1), (-1, 1), (1001, 1000), (10 ** 59, 1)]
    wrong += [("less", thing, (1, 2)) for thing in no_numbers] + [("less", 0, thing) for thing in no_cuts]
    wrong += [("less", 0), ("less", (1, 2)), ("less", (1, 2), 0), ("less", 0, 1, 2), ("less", 0, (1, 2), 0)]
    for word in ("least", "most"):
        wrong += [(word, thing, 0) for thing in no_numbers] + [(word, 0, thing) for thing in no_numbers]
        wrong += [(word, 0), (word, 0, 0, 0), [word, 0, 0], (word, (0, 0)), (word, [0, 0])]
    for word in ("", "Mark", "marks", "mark ", "plus", "Next", "and", b"mark", None, 0, True, ("mark",), ["mark"], Odd()):
        wrong += [(word, "a"), (word, 0), (word, 0, 0), (word, 0, (1, 2)), (word,)]
    wrong += [["mark", "a"], ("a", "mark"), (0, "next"), (("mark", "a"),), ((),), {"mark": "a"}, {0: "mark", 1: "a"}]
    return wrong


def long_rows(many):
    """So many rows that look for a mark."""
    return [("mark", "a")] * many


class Made(unittest.TestCase):
    def test_every_word(self):
        self.assertIsNone(refused(GOOD))
        for many in range(1, len(GOOD) + 1):
            self.assertIsNone(refused(GOOD[:many]))
        for cut in ((0, 1), (1, 1), (1, 2), (998, 999), (1, 10 ** 59), (10 ** 59, 10 ** 59 + 1)):
            self.assertIsNone(refused([("mark", "abcd"), ("less", 0, cut)]))
        for at in range(6):
            self.assertIsNone(refused(GOOD[:6] + [("most", at, 5 - at)]))

    def test_no_list(self):
        for thing in NO_LISTS + [tuple(GOOD), dict(enumerate(GOOD)), ("mark", "a"), Sheet(GOOD)]:
            self.assertEqual(refused(thing), (None,))

    def test_how_many_rows(self):
        self.assertEqual(refused([]), (None,))
        self.assertIsNone(refused(long_rows(1)))
        self.assertIsNone(refused(long_rows(1500)))
        self.assertEqual(refused(long_rows(1501)), (None,))
        self.assertEqual(refused([None] * 1501), (None,))
        self.assertEqual(refused([None] * 1500), (0,))
        self.assertEqual(refused(long_rows(2000)), (None,))
        self.assertEqual(refused(long_rows(1499) + [("next", 1499)]), (1499,))
        self.assertIsNone(refused(long_rows(1499) + [("next", 1498)]))

    def test_wrong_rows(self):
        for number in (1, 2, 6):
            for at, thing in enumerate(wrong_rows(number)):
                with self.subTest(number=number, at=at):
                    self.assertEqual(refused(GOOD[:number] + [thing]), (number,))
                    self.assertEqual(refused(GOOD[:number] + [thing] + [("mark", "b")]), (number,))

    def test_the_first_row(self):
        for thing in wrong_rows(1) + [("next", 0), ("not", 0), ("less", 0, (0, 1)), ("least", 0, 0), ("most", 0, 0)]:
            self.assertEqual(refused([thing]), (0,))
            self.assertEqual(refused([thing] + GOOD), (0,))

    def test_its_own_number_and_one_behind(self):
        for number in range(1, 6):
            for behind in (number, number + 1):
                for row in (
                    ("next", behind), ("not", behind), ("less", behind, (0, 1)), ("least", behind, 0),
                    ("least", 0, behind), ("most", behind, 0), ("most", 0, behind),
                ):
                    self.assertEqual(refused(long_rows(number) + [row] + long_rows(5)), (number,))
                    shorter = tuple(part - 2 if part == behind else part for part in row)
                    if behind >= 2:
                        self.assertIsNone(refused(long_rows(number) + [shorter] + long_rows(5)))

    def test_the_first_is_told(self):
        self.assertEqual(refused(GOOD[:2] + [None, ("mark", "A")]), (2,))
        self.assertEqual(refused([("mark", "a"), ("next", True), ("next", 7)]), (1,))

    def test_by_name_and_left_alone(self):
        self.assertEqual(Sheet(rows=GOOD), Sheet(GOOD))
        check_left_alone(self, Sheet, list(GOOD))
        check_left_alone(self, Sheet, GOOD + [["mark", "a"]])


class Told(unittest.TestCase):
    def test_rows(self):
        for many in range(1, len(GOOD) + 1):
            self.assertEqual(Sheet(GOOD[:many]).rows(), GOOD[:many])
        self.assertEqual(Sheet(long_rows(1500)).rows(), long_rows(1500))

    def test_steps_by_hand(self):
        self.assertEqual(Sheet(GOOD).steps(), [0, 1, 1, 1, 1, 1, 1])
        rows = [
            ("mark", "a"), ("next", 0), ("next", 1), ("mark", "b"), ("least", 2, 3), ("most", 3, 1), ("next", 4),
            ("less", 6, (1, 2)), ("not", 5), ("most", 8, 7), ("least", 7, 8), ("next", 3), ("least", 3, 0),
        ]
        self.assertEqual(Sheet(rows).steps(), [0, 1, 2, 0, 2, 1, 3, 3, 1, 3, 3, 1, 0])

    def test_steps_of_long_sheets(self):
        chain = [("mark", "a")] + [("next", number) for number in range(1499)]
        self.assertEqual(Sheet(chain).steps(), list(range(1500)))
        flat = [("mark", "a")] + [("not", number) for number in range(1499)]
        self.assertEqual(Sheet(flat).steps(), [0] * 1500)

    def test_len_repr_and_str(self):
        for many in (1, 2, 17, 1500):
            sheet = Sheet(long_rows(many))
            self.assertEqual(len(sheet), many)
            self.assertEqual(repr(sheet), f"Sheet({many} rows)")
            self.assertEqual(str(sheet), f"Sheet({many} rows)")

    def test_equality(self):
        self.assertIs(Sheet(GOOD) == Sheet(list(GOOD)), True)
        self.assertIs(Sheet(GOOD) != Sheet(list(GOOD)), False)
        for many in range(1, len(GOOD)):
            self.assertIs(Sheet(GOOD) == Sheet(GOOD[:many]), False)
        for at, row in enumerate([("mark", "b"), ("not", 0), ("next", 1), ("less", 2, (1, 4)), ("least", 3, 2)]):
            self.assertIs(Sheet(GOOD) == Sheet(GOOD[:at] + [row] + GOOD[at + 1:]), False)
        # Worth the same everywhere, but not the same rows.
        self.assertIs(Sheet([("mark", "a"), ("least", 0, 0)]) == Sheet([("mark", "a"), ("most", 0, 0)]), False)
        for thing in NO_LISTS + NO_FRACTIONS + [GOOD, tuple(GOOD), repr(Sheet(GOOD)), one_room()]:
            self.assertIs(Sheet(GOOD) == thing, False)
            self.assertIs(Sheet(GOOD) != thing, True)

    def test_methods_stand_in_the_class(self):
        for name in ("rows", "worths", "steps", "__eq__", "__len__", "__repr__", "__str__"):
            self.assertIn(name, vars(Sheet))


class OwnCopies(unittest.TestCase):
    def test_told_lists(self):
        sheet = Sheet(GOOD + [("least", 0, 0), ("less", 0, (0, 1)), ("mark", "a"), ("mark", "a")])
        check_own_lists(self, sheet.rows)
        check_own_lists(self, sheet.steps)
        for machine in telling_machines():
            check_own_lists(self, lambda: sheet.worths(machine, (1, 3)))
            check_left_alone(self, sheet.worths, machine, (1, 3))
        self.assertEqual(len(sheet), len(GOOD) + 4)

    def test_changing_what_was_handed_in(self):
        rows = list(GOOD)
        sheet = Sheet(rows)
        rows[0] = ("mark", "b")
        rows.append("more")
        self.assertEqual(sheet, Sheet(GOOD))
        self.assertEqual(sheet.rows(), GOOD)
        self.assertEqual(len(sheet), len(GOOD))


class Worths(unittest.TestCase):
    def test_by_hand(self):
        rows = [
            ("mark", "a"), ("next", 0), ("not", 1), ("less", 2, (3, 5)), ("least", 0, 2), ("most", 0, 2), ("mark", "zz"),
            ("next", 2), ("less", 0, (1, 1)), ("less", 0, (0, 1)), ("not", 6),
        ]
        told = Sheet(rows).worths(coins(), (1, 2))
        self.assertEqual(told, [
            [(1, 1), (0, 1), (1, 1)],
            [(1, 4), (1, 3), (3, 8)],
            [(3, 4), (2, 3), (5, 8)],
            [(3, 20), (1, 15), (1, 40)],
            [(3, 4), (0, 1), (5, 8)],
            [(1, 1), (2, 3), (1, 1)],
            [(0, 1), (0, 1), (0, 1)],
            [(17, 48), (23, 72), (1, 3)],
            [(0, 1), (0, 1), (0, 1)],
            [(1, 1), (0, 1), (1, 1)],
            [(1, 1), (1, 1), (1, 1)],
        ])
        self.assertEqual(Sheet([("mark", "a"), ("next", 0)]).worths(one_room(), (998, 999)), [[(1, 1)], [(998, 999)]])

    def test_cut_to_nought(self):
        rows = [("mark", "a"), ("next", 0)]
        for cut, worth in (((1, 4), (1, 4)), ((1, 2), (0, 1)), ((500, 999), (0, 1)), ((1, 1), (0, 1))):
            self.assertEqual(Sheet(rows + [("less", 1, cut)]).worths(one_room())[-1], [worth])
        self.assertEqual(Sheet(rows + [("less", 1, (498, 997))]).worths(one_room())[-1], [(1, 1994)])

    def test_whatever_sheet(self):
        source = random.Random(61)
        for machine in telling_machines() + random_machines(62, 12):
            for fade in FADES[:3]:
                rows = random_rows(source, 60)
                told = Sheet(rows).worths(machine, fade)
                by_hand = values_by_hand(rows, machine, fade)
                self.assertEqual(told, [[pair(value) for value in values] for values in by_hand])
                self.assertTrue(all(0 <= value <= 1 for values in by_hand for value in values))

    def test_great_and_strange_cuts(self):
        cuts = [(1, 10 ** 59), (10 ** 58 - 1, 10 ** 59), (7, 2 ** 190), (5, 3 ** 100), (1, 999 ** 19), (2, 10 ** 50 + 1)]
        for machine in telling_machines():
            rows = [("mark", "a"), ("next", 0)]
            for cut in cuts:
                rows += [("less", len(rows) - 1, cut), ("not", len(rows)), ("next", len(rows) + 1)]
            # What was told may be handed in, whatever figures it has.
            worth = Sheet(rows).worths(machine, (2, 3))[-1][0]
            rows += [("less", len(rows) - 1, worth), ("next", len(rows)), ("next", 2), ("less", len(rows) - 1, worth)]
            by_hand = values_by_hand(rows, machine, (2, 3))
            told = Sheet(rows).worths(machine, (2, 3))
            self.assertEqual(told, [[pair(value) for value in values] for values in by_hand])

    def test_what_comes_together_to_little(self):
        # The great bottoms of 3 and of 4 vanish again, in one go, where a room goes to both rooms by halves.
        machine = Machine(["a", "b"], [[(1, 2), (1, 2)], [(1, 2), (1, 2)]])
        rows = [("mark", "a"), ("mark", "b"), ("next", 0)] + [("next", number) for number in range(2, 60)]
        last = len(rows) - 1
        rows += [("not", last), ("least", last, 0), ("least", last + 1, 1), ("most", last + 2, last + 3)]
        rows += [("next", last + 4), ("less", last, (1, 10 ** 40)), ("next", last + 6)]
        told = Sheet(rows).worths(machine, (2, 3))
        self.assertEqual(told, [[pair(value) for value in row] for row in values_by_hand(rows, machine, (2, 3))])
        self.assertEqual(told[last + 5], [(1, 3), (1, 3)])

    def test_refusals_and_their_order(self):
        sheet = Sheet(GOOD)
        for fade in [None, (1, 3)] + NO_FADES[:6]:
            for thing in NO_MACHINES:
                with self.assertRaises(NoMachine) as caught:
                    sheet.worths(thing, fade)
                self.assertEqual((caught.exception.part, caught.exception.number), ("machine", None))
        check_fades(self, lambda *fade, **named: sheet.worths(coins(), *fade, **named))
        check_fades(self, lambda *fade, **named: Sheet([("mark", "a")]).worths(one_room(), *fade, **named))
        self.assertEqual(sheet.worths(fade=(1, 3), machine=coins()), sheet.worths(coins(), (1, 3)))


def branching():
    """Room 0 goes on to two rooms whose shares have unlike bottoms and which never meet."""
    return Machine(
        ["a", "a", "a", "b"],
        [
            [(0, 1), (1, 2), (1, 2), (0, 1)],
            [(0, 1), (400, 997), (0, 1), (597, 997)],
            [(0, 1), (0, 1), (500, 991), (491, 991)],
            [(0, 1), (0, 1), (0, 1), (1, 1)],
        ],
    )


class LongSheets(unittest.TestCase):
    def test_each_made_of_the_one_ahead(self):
        kinds = [
            lambda at: ("next", at), lambda at: ("not", at), lambda at: ("less", at, (1, 7)),
            lambda at: ("least", at, at), lambda at: ("less", at, (1, at + 2)), lambda at: ("most", at, at // 2),
        ]
        for some in ([0], [1], [2, 1], [0, 1], [0, 1, 2], [0, 1, 4], [0, 3, 5, 1], [0, 4, 1, 5, 3]):
            rows = [("mark", "a")] + [kinds[some[at % len(some)]](at) for at in range(1499)]
            for machine in (coins(), lasting(), one_way()):
                told = check_in_good_time(self, lambda: Sheet(rows).worths(machine, (2, 3)))
                by_hand = values_by_hand(rows, machine, (2, 3))
                self.assertEqual(told, [[pair(value) for value in values] for values in by_hand])

    def test_the_greatest_figures(self):
        rows = [("mark", "a")] + [("next", at) if at < 1490 else ("not", at) for at in range(1499)]
        for machine in (six_rooms(), great_figures(), with_twins(), branching()):
            told = check_in_good_time(self, lambda: Sheet(rows).worths(machine, (998, 999)))
            self.assertEqual(len(told), 1500)
            self.assertGreater(told[-1][0][1], 10 ** 4000)
            for number in (1, 2, 3, 50, 700, 1489, 1490):
                ahead, values = told[number - 1], told[number]
                for row, (top, bottom) in zip(machine.shares(), values):
                    self.assertEqual(math.gcd(top, bottom), 1)
                    whole = math.lcm(*[value[1] for value in ahead], *[share[1] for share in row])
                    onward = sum(
                        share[0] * value[0] * (whole // share[1] * whole // value[1])
                        for share, value in zip(row, ahead)
                    )
                    self.assertEqual(top * 999 * whole * whole, bottom * 998 * onward)

    def test_no_depth_that_grows_with_the_rows(self):
        rows = [("mark", "a")] + [("next", at) if at & 1 else ("not", at) for at in range(1499)]
        limit = sys.getrecursionlimit()
        depth = 0
        frame = sys._getframe()
        while frame is not None:
            depth, frame = depth + 1, frame.f_back
        try:
            sys.setrecursionlimit(depth + 40)
            sheet = Sheet(rows)
            told, steps = sheet.worths(coins()), sheet.steps()
        finally:
            sys.setrecursionlimit(limit)
        self.assertEqual((len(told), steps[-1]), (1500, 749))


class NoRowPartsMore(unittest.TestCase):
    def test_than_the_distance_and_the_table_by_one_step_more(self):
        source = random.Random(63)
        met = 0
        for machine in telling_machines() + random_machines(64, 20):
            for fade in FADES[:3]:
                sheet = Sheet(random_rows(source, 80))
                exact = distances(machine, fade)
                tables = tables_by(machine, 8, fade)
                for values, steps in zip(sheet.worths(machine, fade), sheet.steps()):
                    for one, other in itertools.combinations(range(len(machine)), 2):
                        parted = abs(number_of(values[one]) - number_of(values[other]))
                        self.assertLessEqual(parted, number_of(exact[one][other]))
                        if steps < 8:
                            self.assertLessEqual(parted, number_of(tables[steps + 1][one][other]))
                        met += parted == number_of(exact[one][other]) != 0
        self.assertGreater(met, 100)


if __name__ == "__main__":
    unittest.main()
