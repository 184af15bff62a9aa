"""Point 3, (a) to (h), each for drawn machines."""

import itertools
import random
import unittest
from fractions import Fraction

from neartwins.beside import alike_machines, beside, between
from neartwins.bounds import lets_above, lets_below
from neartwins.cheapest import cheapest, lets_cheapest
from neartwins.desk import Desk
from neartwins.distances import are_distances, distances
from neartwins.errors import TooMany
from neartwins.keeper import Keeper
from neartwins.least import made_least
from neartwins.lumps import alike
from neartwins.machines import Machine
from neartwins.marks import all_rows, chance
from neartwins.moves import most_moved, moved
from neartwins.papers import above, below
from neartwins.sheets import Sheet
from neartwins.strongest import strongest
from neartwins.tables import next_table, tables_by
from neartwins.texts import read, shown
from tests.things import (
    FADES, changed_at, greatest_gap, like_rooms, number_of, pair, random_machines, random_rows, random_shares,
    random_twins,
)

SOME_FADES = FADES[:3] + [(2, 3)]


def drawn(seed, often):
    """Drawn machines, some with rooms that are alike, each with a fade."""
    source = random.Random(seed)
    machines = random_machines(seed, often)
    for machine in machines[::3]:
        # Rooms that go on as others do are soon alike to them.
        shares, marks = machine.shares(), machine.marks()
        one, other = source.sample(range(len(machine)), 2)
        shares[one], marks[one] = shares[other], marks[other]
        machines.append(Machine(marks, shares))
    return [(machine, source.choice(SOME_FADES)) for machine in machines]


def all_at_most(lesser, greater):
    """Whether a table has nowhere more than another."""
    return all(
        number_of(one) <= number_of(other) for row, over in zip(lesser, greater) for one, other in zip(row, over)
    )


def moved_table(source, table, machine):
    """A table near this one, the same both ways, with one where marks are unlike."""
    for one, other in like_rooms(machine):
        gap = number_of(table[one][other])
        near = min(max(gap * Fraction(source.randrange(8, 13), 10), Fraction(0)), Fraction(1))
        table = changed_at(table, one, other, pair(near))
    return table


def written_for(machine, table, fade):
    """Papers from above and from below that somebody writes for a table, by the prices and carryings of another one."""
    exact = distances(machine, fade)
    told = [
        (one, other, cheapest(machine.shares_of(one), machine.shares_of(other), exact))
        for one, other in like_rooms(machine)
    ]
    return (
        (table, [(one, other, each[1]) for one, other, each in told]),
        (table, [(one, other, each[2]) for one, other, each in told]),
    )


class Whole(unittest.TestCase):
    def test_a_the_only_table_that_cheapest_carryings_say(self):
        for machine, fade in drawn(121, 20):
            exact = distances(machine, fade)
            self.assertEqual(next_table(machine, exact, fade), exact)
            self.assertIs(are_distances(machine, exact, fade), True)
            for one, other in like_rooms(machine):
                told = cheapest(machine.shares_of(one), machine.shares_of(other), exact)
                self.assertIs(lets_cheapest(machine.shares_of(one), machine.shares_of(other), exact, told), True)
                self.assertEqual(pair(number_of(fade) * number_of(told[0])), exact[one][other])
            # Whatever other table there is, it isn't what the cheapest carryings by it say.
            for table in tables_by(machine, 4, fade) + [distances(machine, each) for each in SOME_FADES]:
                if table != exact:
                    self.assertNotEqual(next_table(machine, table, fade), table)
                    self.assertIs(are_distances(machine, table, fade), False)

    def test_a_papers(self):
        source = random.Random(122)
        let = [0, 0]
        for machine, fade in drawn(123, 20):
            exact = distances(machine, fade)
            self.assertEqual((above(machine, fade)[0], below(machine, fade)[0]), (exact, exact))
            self.assertIs(lets_above(machine, above(machine, fade), fade), True)
            self.assertIs(lets_below(machine, below(machine, fade), fade), True)
            for again in range(6):
                over, under = written_for(machine, moved_table(source, exact, machine), fade)
                if lets_above(machine, over, fade):
                    let[0] += 1
                    self.assertTrue(all_at_most(exact, over[0]))
                if lets_below(machine, under, fade):
                    let[1] += 1
                    self.assertTrue(all_at_most(under[0], exact))
        self.assertGreater(min(let), 5)

    def test_b_nought_one_and_corners(self):
        for machine, fade in drawn(124, 30):
            table = distances(machine, fade)
            rooms = range(len(machine))
            for one, other in itertools.product(rooms, repeat=2):
                self.assertIs(table[one][other] == (0, 1), alike(machine, one, other))
                self.assertIs(table[one][other] == (1, 1), machine.mark(one) != machine.mark(other))
                for third in rooms:
                    by_way = number_of(table[one][third]) + number_of(table[third][other])
                    self.assertLessEqual(number_of(table[one][other]), by_way)

    def test_c_sets_of_rows(self):
        source = random.Random(125)
        for machine, fade in drawn(126, 12):
            table = distances(machine, fade)
            for many in (1, 2, 3, 4):
                for one, other in itertools.combinations(range(len(machine)), 2):
                    most = number_of(table[one][other]) / number_of(fade) ** (many - 1)
                    try:
                        rows = [row for room in (one, other) for row, each in all_rows(machine, room, many)]
                    except TooMany:
                        continue
                    rows = [list(row) for row in sorted(set(map(tuple, rows)))]
                    gaps = [number_of(chance(machine, one, row)) - number_of(chance(machine, other, row)) for row in rows]
                    for again in range(6):
                        self.assertLessEqual(abs(sum(gap for gap in gaps if source.randrange(2))), most)
                    self.assertLessEqual(sum(gap for gap in gaps if gap > 0), most)

    def test_d_made_least_and_side_by_side(self):
        machines = drawn(127, 24)
        for machine, fade in machines:
            try:
                least, numbers = made_least(machine)
            except TooMany:
                continue
            table, small = distances(machine, fade), distances(least, fade)
            for one, other in itertools.product(range(len(machine)), repeat=2):
                self.assertEqual(table[one][other], small[numbers[one]][numbers[other]])
            self.assertIs(alike_machines(machine, least), True)
            for other, ignored in machines:
                if len(other) < len(least):
                    self.assertIs(alike_machines(least, other), False)
        small = [(machine, fade) for machine, fade in machines if len(machine) <= 3]
        for (one, fade), (other, ignored) in itertools.product(small, repeat=2):
            table = distances(beside(one, other), fade)
            self.assertEqual([row[:len(one)] for row in table[:len(one)]], distances(one, fade))
            self.assertEqual([row[len(one):] for row in table[len(one):]], distances(other, fade))
            self.assertEqual([row[len(one):] for row in table[:len(one)]], between(one, other, fade))

    def test_e_tests(self):
        source = random.Random(128)
        for machine, fade in drawn(129, 20):
            exact, tables = distances(machine, fade), tables_by(machine, 8, fade)
            sheet = Sheet(random_rows(source, 50))
            pairs = list(itertools.combinations(range(len(machine)), 2))
            for values, steps in zip(sheet.worths(machine, fade), sheet.steps()):
                for one, other in pairs:
                    parted = abs(number_of(values[one]) - number_of(values[other]))
                    self.assertLessEqual(parted, number_of(exact[one][other]))
                    for more in range(steps + 1, 9):
                        self.assertLessEqual(parted, number_of(tables[more][one][other]))
            if len(machine) <= 4:
                for (one, other), steps in itertools.product(pairs, range(1, 5)):
                    sheet = strongest(machine, one, other, steps, fade)
                    values = sheet.worths(machine, fade)[-1]
                    self.assertLess(sheet.steps()[-1], steps)
                    parted = abs(number_of(values[one]) - number_of(values[other]))
                    self.assertEqual(pair(parted), tables[steps][one][other])

    def test_f_moves(self):
        for one, other in random_twins(130, 40):
            for fade in SOME_FADES:
                gap = greatest_gap(distances(one, fade), distances(other, fade))
                self.assertEqual(moved(one, other, fade), pair(gap))
                self.assertLessEqual(gap, number_of(most_moved(one, other, fade)))
        rising = sorted(SOME_FADES, key=number_of)
        for machine, fade in drawn(131, 20):
            for lesser, greater in zip(rising, rising[1:]):
                self.assertTrue(all_at_most(distances(machine, lesser), distances(machine, greater)))

    def test_g_keepers(self):
        source = random.Random(132)
        for machine, fade in drawn(133, 15):
            keeper = Keeper(machine, fade)
            for turn in range(12):
                room = source.randrange(len(machine))
                deed = source.randrange(4)
                if deed == 0:
                    keeper.mark(room, source.choice(["a", "b"]))
                elif deed == 1:
                    keeper.steps(room, random_shares(source, len(machine), source.choice([2, 5, 999])))
                elif deed == 2:
                    keeper.fade_to(source.choice(FADES))
                elif len(keeper) > 0:
                    keeper.undo()
                anew = Machine(keeper.machine().marks(), keeper.machine().shares())
                self.assertEqual(keeper.table(), distances(anew, keeper.fade()))
            while len(keeper) > 0:
                keeper.undo()
            self.assertEqual((keeper, keeper.table()), (Keeper(machine, fade), distances(machine, fade)))

    def test_h_texts(self):
        for machine, fade in drawn(134, 40):
            self.assertEqual(read(shown(machine)), machine)
            desk = Desk()
            desk.say("keep a " + shown(machine).replace("\n", "; "))
            self.assertEqual(read(desk.say("shown a").replace("; ", "\n")), machine)


if __name__ == "__main__":
    unittest.main()
