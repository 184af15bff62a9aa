"""Points 13 and 14, and of point 3 what speaks of distances: the table that is its own next one."""

import itertools
import unittest
from fractions import Fraction

from neartwins.carryings import has_corners, is_table
from neartwins.distances import are_distances, distance, distances, near
from neartwins.machines import Machine
from neartwins.marks import apart_by_rows, chance
from neartwins.tables import next_table, tables_by
from neartwins.walking import renamed
from tests.things import (
    FADES, NO_FRACTIONS, NO_LISTS, chain, changed_at, check_fades, check_in_good_time, check_left_alone,
    check_no_machine, check_no_room, check_own_lists, coins, great_figures, lasting, like_rooms, number_of, one_room,
    one_way, pair, random_machines, six_rooms, telling_machines, unlike_lengths, with_each_place, with_twins,
)


def numbers(table):
    """A table in Python's own fractions."""
    return [[number_of(gap) for gap in row] for row in table]


class Distances(unittest.TestCase):
    def test_by_hand(self):
        self.assertEqual(distances(one_room()), [[(0, 1)]])
        third = [[(0, 1), (1, 3), (1, 1)], [(1, 3), (0, 1), (1, 1)], [(1, 1), (1, 1), (0, 1)]]
        self.assertEqual(distances(lasting()), third)
        self.assertEqual(distances(lasting(), (998, 999))[0][1], (499, 500))
        self.assertEqual(distances(lasting(), (1, 999))[0][1], (1, 1997))
        # From 0 and from 1 a quarter each is carried to 2, the former by the very distance x: x = f (x + 1) / 4.
        self.assertEqual(distances(coins())[0][2], (1, 7))
        self.assertEqual(distances(coins(), (998, 999))[0][2], (499, 1499))

    def test_a_chain(self):
        for fade in FADES:
            table = distances(chain(), fade)
            for one, other in itertools.combinations(range(6), 2):
                self.assertEqual(table[one][other], pair(number_of(fade) ** (5 - other)))

    def test_each_table_is_its_own_next_one(self):
        for machine in telling_machines() + random_machines(11, 40):
            for fade in FADES:
                table = check_in_good_time(self, lambda: distances(machine, fade))
                self.assertIs(is_table(len(machine), table), True)
                self.assertIs(has_corners(table), True)
                self.assertEqual(next_table(machine, table, fade), table)

    def test_one_just_where_marks_are_unlike(self):
        for machine in telling_machines() + random_machines(12, 20):
            for fade in FADES[:3]:
                table = distances(machine, fade)
                for one, other in itertools.product(range(len(machine)), repeat=2):
                    self.assertEqual(table[one][other] == (1, 1), machine.mark(one) != machine.mark(other))
                    if one == other:
                        self.assertEqual(table[one][other], (0, 1))

    def test_nought_of_twins_only(self):
        table = distances(with_twins(), (998, 999))
        found = [(one, other) for one, other in itertools.combinations(range(6), 2) if table[one][other] == (0, 1)]
        self.assertEqual(found, [(0, 3), (1, 4)])
        for many in range(1, 7):
            same = Machine(["a"] * many, [[(1, many)] * many for room in range(many)])
            self.assertEqual(distances(same), [[(0, 1)] * many] * many)
        ring = Machine(["a"] * 6, [[(1, 1) if to == 5 - room else (0, 1) for to in range(6)] for room in range(6)])
        self.assertEqual(distances(ring, (998, 999)), [[(0, 1)] * 6] * 6)

    def test_between_the_tables_by_steps_and_a_little_more(self):
        for machine in telling_machines():
            for fade in FADES:
                table = numbers(distances(machine, fade))
                for steps, lesser in enumerate(tables_by(machine, 8, fade)):
                    for row, under in zip(table, numbers(lesser)):
                        for gap, least in zip(row, under):
                            self.assertLessEqual(least, gap)
                            self.assertLessEqual(gap, least + number_of(fade) ** steps)

    def test_tables_by_steps_never_come_to_it(self):
        for machine in (lasting(), coins(), great_figures()):
            for fade in FADES[:3]:
                self.assertNotIn(distances(machine, fade), tables_by(machine, 8, fade))

    def test_great_figures(self):
        for fade in ((1, 999), (998, 999), (991, 997)):
            table = check_in_good_time(self, lambda: distances(great_figures(), fade))
            self.assertEqual(next_table(great_figures(), table, fade), table)
            self.assertGreater(max(gap[1] for row in table for gap in row), 10 ** 60)

    def test_refusals_and_their_order(self):
        check_no_machine(self, distances)
        check_no_machine(self, distances, (1, 1))
        check_fades(self, lambda *fade, **named: distances(coins(), *fade, **named))

    def test_own_lists_and_names(self):
        for machine in telling_machines():
            check_own_lists(self, lambda: distances(machine))
            check_left_alone(self, distances, machine, (1, 3))
        self.assertEqual(distances(fade=(1, 3), machine=coins()), distances(coins(), (1, 3)))


class Distance(unittest.TestCase):
    def test_as_the_table_has_it(self):
        for machine in telling_machines():
            for fade in (None, (1, 999), (998, 999)):
                table = distances(machine, fade)
                for one, other in itertools.product(range(len(machine)), repeat=2):
                    self.assertEqual(distance(machine, one, other, fade), table[one][other])

    def test_refusals_and_their_order(self):
        check_no_machine(self, distance, 0, 1)
        check_no_machine(self, distance, 9, 9, (1, 1))
        for fade in (None, (1, 3), (1, 1)):
            check_no_room(self, coins(), lambda room: distance(coins(), room, 1, fade))
            check_no_room(self, coins(), lambda room: distance(coins(), room, "last", fade))
            check_no_room(self, coins(), lambda room: distance(coins(), 1, room, fade))
        check_fades(self, lambda *fade, **named: distance(coins(), 0, 2, *fade, **named))
        check_fades(self, lambda *fade, **named: distance(coins(), 1, 1, *fade, **named))

    def test_by_names(self):
        self.assertEqual(distance(fade=(998, 999), other=2, one=0, machine=coins()), (499, 1499))
        check_left_alone(self, distance, coins(), 0, 2, (1, 3))


class Near(unittest.TestCase):
    def test_by_hand(self):
        self.assertEqual(near(one_room(), 0), [])
        self.assertEqual(near(lasting(), 1), [((1, 3), 0), ((1, 1), 2)])
        self.assertEqual(near(chain(), 0), [((1, 16), 1), ((1, 8), 2), ((1, 4), 3), ((1, 2), 4), ((1, 1), 5)])
        self.assertEqual(near(chain(), 3), [((1, 4), 0), ((1, 4), 1), ((1, 4), 2), ((1, 2), 4), ((1, 1), 5)])
        self.assertEqual(near(chain(), 5), [((1, 1), room) for room in range(5)])
        self.assertEqual(
            near(chain(), 1, (2, 3)), [((16, 81), 0), ((8, 27), 2), ((4, 9), 3), ((2, 3), 4), ((1, 1), 5)]
        )

    def test_lesser_distances_first_of_like_ones_lesser_rooms(self):
        for machine in telling_machines() + random_machines(13, 20):
            for fade in FADES[:3]:
                table = numbers(distances(machine, fade))
                for room in range(len(machine)):
                    others = [other for other in range(len(machine)) if other != room]
                    order = sorted(others, key=lambda other: (table[room][other], other))
                    told = near(machine, room, fade)
                    self.assertEqual(told, [(pair(table[room][other]), other) for other in order])

    def test_refusals_and_their_order(self):
        check_no_machine(self, near, 0)
        check_no_machine(self, near, 9, (1, 1))
        for fade in (None, (1, 3), (1, 1)):
            check_no_room(self, coins(), lambda room: near(coins(), room, fade))
        check_fades(self, lambda *fade, **named: near(coins(), 2, *fade, **named))
        check_fades(self, lambda *fade, **named: near(one_room(), 0, *fade, **named))

    def test_own_lists_and_names(self):
        for machine in telling_machines():
            check_own_lists(self, lambda: near(machine, 0))
            check_left_alone(self, near, machine, 0, (1, 3))
        self.assertEqual(near(fade=(1, 3), room=2, machine=coins()), near(coins(), 2, (1, 3)))


class AreDistances(unittest.TestCase):
    def test_the_table_itself(self):
        for machine in telling_machines() + random_machines(14, 10):
            for fade in (None, (1, 999), (998, 999)):
                self.assertIs(are_distances(machine, distances(machine, fade), fade), True)

    def test_another_gap(self):
        for machine in telling_machines():
            for fade in (None, (998, 999)):
                table = distances(machine, fade)
                for one, other in itertools.combinations(range(len(machine)), 2):
                    gap = number_of(table[one][other])
                    for move in (Fraction(1, 10 ** 50), Fraction(-1, 10 ** 50), Fraction(1, 2), -gap, 1 - gap):
                        if move != 0:
                            changed = changed_at(table, one, other, pair(gap + move))
                            self.assertIs(are_distances(machine, changed, fade), False)

    def test_other_tables(self):
        for machine in (coins(), lasting(), six_rooms(), great_figures()):
            for table in tables_by(machine, 8):
                self.assertIs(are_distances(machine, table), False)
            self.assertIs(are_distances(machine, distances(machine, (1, 3)), (1, 2)), False)
            self.assertIs(are_distances(machine, distances(machine, (1, 3)), (1, 3)), True)
            self.assertIs(are_distances(chain(), distances(machine)), False)
        # From four steps on the tables of this one stay as they are.
        self.assertIs(are_distances(chain(), tables_by(chain(), 5)[-1]), True)

    def test_anything(self):
        table = distances(coins())
        wrong = NO_LISTS + NO_FRACTIONS + unlike_lengths(table)
        wrong += [tuple(table), [tuple(row) for row in table], dict(enumerate(table)), (table,), [table]]
        wrong += [changed for place, thing, changed in with_each_place(table, NO_LISTS)]
        for place, row in enumerate(table):
            for at, thing, changed in with_each_place(row, NO_FRACTIONS + [(2, 1), (-1, 6), (1, 9)]):
                wrong.append(table[:place] + [changed] + table[place + 1:])
        # Like (0, 1) and (1, 1) by ==, but with truths.
        wrong += [changed_at(table, 0, 1, (True, 1)), changed_at(table, 0, 1, (1, True))]
        wrong += [changed_at(table, 1, 1, (False, 1)), changed_at(table, 1, 1, (0, True))]
        wrong += [[[False]], [[(False, 1)]]]
        for place, thing in enumerate(wrong):
            with self.subTest(place=place):
                self.assertIs(are_distances(coins(), thing), False)

    def test_refusals_are_ahead_of_any_answer(self):
        for thing in (distances(coins()), None, "table", []):
            check_no_machine(self, are_distances, thing)
            check_no_machine(self, are_distances, thing, (1, 1))
            check_fades(self, lambda *fade, **named: are_distances(coins(), thing, *fade, **named))

    def test_by_names(self):
        self.assertIs(are_distances(fade=(1, 3), thing=distances(coins(), (1, 3)), machine=coins()), True)
        check_left_alone(self, are_distances, coins(), distances(coins()), (1, 3))


class Renamed(unittest.TestCase):
    def test_the_same_distances_of_the_new_numbers(self):
        for machine in telling_machines():
            rooms = list(range(len(machine)))
            for order in (rooms[::-1], rooms[1:] + rooms[:1], rooms[2:] + rooms[:2], rooms[::2] + rooms[1::2]):
                for fade in FADES[:3]:
                    table = distances(machine, fade)
                    moved = [[table[one][other] for other in order] for one in order]
                    self.assertEqual(distances(renamed(machine, order), fade), moved)


class GreaterFades(unittest.TestCase):
    def test_no_distance_is_less(self):
        rising = sorted(FADES + [(1, 10), (3, 4), (997, 999), (2, 999)], key=number_of)
        for machine in telling_machines() + random_machines(15, 10):
            tables = [numbers(distances(machine, fade)) for fade in rising]
            for lesser, greater in zip(tables, tables[1:]):
                for row, over in zip(lesser, greater):
                    for one, other in zip(row, over):
                        self.assertLessEqual(one, other)


class RowsOfMarks(unittest.TestCase):
    def test_no_rows_tell_more_than_distances_let(self):
        for machine in (coins(), lasting(), chain(), one_way(), with_twins()):
            for fade in FADES[:3]:
                table = numbers(distances(machine, fade))
                for one, other in itertools.combinations(range(len(machine)), 2):
                    for many in range(1, 6):
                        told = number_of(apart_by_rows(machine, one, other, many)[0])
                        self.assertLessEqual(told, table[one][other] / number_of(fade) ** (many - 1))

    def test_each_set_of_rows(self):
        machine, fade = coins(), Fraction(998, 999)
        rows = [list(row) for row in itertools.product(["a", "b"], repeat=3)]
        gaps = [number_of(chance(machine, 0, row)) - number_of(chance(machine, 2, row)) for row in rows]
        most = number_of(distance(machine, 0, 2, pair(fade))) / fade ** 2
        for some in itertools.product([0, 1], repeat=len(rows)):
            self.assertLessEqual(abs(sum(gap for gap, taken in zip(gaps, some) if taken)), most)

    def test_like_rooms_in_the_end(self):
        for one, other in like_rooms(with_twins()):
            nought = distance(with_twins(), one, other) == (0, 1)
            told = [apart_by_rows(with_twins(), one, other, many)[0] for many in range(1, 6)]
            self.assertEqual(told == [(0, 1)] * 5, nought)


if __name__ == "__main__":
    unittest.main()
