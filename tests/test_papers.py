"""Points 15 and 16, and part (a) of point 3: papers from above and from below."""

import itertools
import random
import unittest
from fractions import Fraction

from neartwins.bounds import lets_above, lets_below
from neartwins.carryings import has_corners
from neartwins.cheapest import cheapest
from neartwins.distances import distances
from neartwins.machines import Machine
from neartwins.papers import above, below
from neartwins.tables import next_table, tables_by
from tests.things import (
    FADES, NO_FRACTIONS, NO_LISTS, NO_WHOLES, chain, changed_at, check_carrying, check_fades, check_in_good_time,
    check_left_alone, check_no_machine, check_own_lists, check_prices, coins, cost_of, earned_by, even_table, lasting,
    like_rooms, number_of, one_room, pair, random_machines, telling_machines, unlike_lengths, with_each_place,
    with_twins,
)

LITTLE = Fraction(1, 10 ** 50)
KINDS = ((lets_above, above), (lets_below, below))


def mixed(machine, one, other):
    """The carrying that carries of each share to each other one by how great both are."""
    return [
        [pair(number_of(share) * number_of(onto)) for onto in machine.shares_of(other)]
        for share in machine.shares_of(one)
    ]


def paper_by(machine, table, part):
    """A table with what cheapest tells by it for each two rooms: carryings (part 1) or prices (part 2)."""
    return (
        table,
        [
            (one, other, cheapest(machine.shares_of(one), machine.shares_of(other), table)[part])
            for one, other in like_rooms(machine)
        ],
    )


def all_at_most(lesser, greater):
    """Whether a table has nowhere more than another."""
    return all(
        number_of(one) <= number_of(other) for row, over in zip(lesser, greater) for one, other in zip(row, over)
    )


def wrong_entries(entry):
    """What can't stand for a tuple (one, other, something), whatever the something is."""
    one, other, last = entry
    wrong = [entry[:2], entry + (last,), list(entry), [one, other, last], (one, last), (other, one, last), (entry,)]
    wrong += [(last, one, other), (one, other), {0: one, 1: other, 2: last}, (one + 1, other, last)]
    wrong += [(one, other + 1, last), (one - 1, other, last), (one, one, last), (other, other, last)]
    wrong += [(thing, other, last) for thing in NO_WHOLES] + [(one, thing, last) for thing in NO_WHOLES]
    return wrong + [(one, other, thing) for thing in NO_LISTS] + NO_LISTS + NO_FRACTIONS


def wrong_forms(machine, paper):
    """What is no paper by its mere form, put together from one that is let by."""
    table, entries = paper
    wrong = NO_LISTS + NO_FRACTIONS
    wrong += [list(paper), paper[:1], paper[1:], paper + (entries,), paper[::-1], (table, table), (entries, entries)]
    wrong += [{0: table, 1: entries}, (paper,), [paper], table, entries]
    wrong += [(thing, entries) for thing in NO_LISTS + unlike_lengths(table) + [tuple(table), dict(enumerate(table))]]
    wrong += [([tuple(row) for row in table], entries)]
    wrong += [(changed, entries) for place, thing, changed in with_each_place(table, NO_LISTS)]
    for place, row in enumerate(table):
        for at, thing, changed in with_each_place(row, NO_FRACTIONS + [(2, 1), (-1, 2)]):
            wrong.append((table[:place] + [changed] + table[place + 1:], entries))
    wrong += [(table, thing) for thing in NO_LISTS + [tuple(entries), dict(enumerate(entries))]]
    wrong += [(table, [list(entry) for entry in entries])] if entries else [(table, [(0, 1, [(0, 1)])])]
    wrong += [(table, thing) for thing in unlike_lengths(entries) if thing != entries] if entries else []
    for place, entry in enumerate(entries):
        wrong += [(table, entries[:place] + [thing] + entries[place + 1:]) for thing in wrong_entries(entry)]
        wrong += [(table, entries[:place] + entries[place + 1:]), (table, entries[:place] + [entry] + entries[place:])]
    for one, other in itertools.combinations(range(len(entries)), 2):
        changed = list(entries)
        changed[one], changed[other] = changed[other], changed[one]
        wrong.append((table, changed))
    for one, other in itertools.combinations(range(len(machine)), 2):
        if machine.mark(one) != machine.mark(other):
            more = sorted(entries + [(one, other, entries[0][2] if entries else [(0, 1)])], key=lambda entry: entry[:2])
            wrong.append((table, more))
    return wrong


def with_last(paper, place, last):
    """A paper with another carrying, or other prices, in its entry at this place."""
    table, entries = paper
    one, other = entries[place][:2]
    return (table, entries[:place] + [(one, other, last)] + entries[place + 1:])


class Told(unittest.TestCase):
    def test_papers_from_above(self):
        for machine in telling_machines() + random_machines(21, 20):
            for fade in FADES[:3]:
                told = check_in_good_time(self, lambda: above(machine, fade))
                self.assertIsInstance(told, tuple)
                table, entries = told
                self.assertEqual(table, distances(machine, fade))
                self.assertEqual([entry[:2] for entry in entries], like_rooms(machine))
                for one, other, carrying in entries:
                    check_carrying(self, machine.shares_of(one), machine.shares_of(other), carrying)
                    self.assertEqual(pair(number_of(fade) * cost_of(table, carrying)), table[one][other])
                self.assertIs(check_in_good_time(self, lambda: lets_above(machine, told, fade)), True)

    def test_papers_from_below(self):
        for machine in telling_machines() + random_machines(22, 20):
            for fade in FADES[:3]:
                told = check_in_good_time(self, lambda: below(machine, fade))
                self.assertIsInstance(told, tuple)
                table, entries = told
                self.assertEqual(table, distances(machine, fade))
                self.assertEqual([entry[:2] for entry in entries], like_rooms(machine))
                for one, other, prices in entries:
                    check_prices(self, table, prices)
                    earns = abs(earned_by(machine.shares_of(one), machine.shares_of(other), prices))
                    self.assertEqual(pair(number_of(fade) * earns), table[one][other])
                self.assertIs(check_in_good_time(self, lambda: lets_below(machine, told, fade)), True)

    def test_by_hand(self):
        self.assertEqual(above(one_room()), ([[(0, 1)]], []))
        self.assertEqual(below(one_room()), ([[(0, 1)]], []))
        table = [[(0, 1), (1, 3), (1, 1)], [(1, 3), (0, 1), (1, 1)], [(1, 1), (1, 1), (0, 1)]]
        carrying = [[(0, 1), (1, 2), (0, 1)], [(0, 1), (0, 1), (0, 1)], [(0, 1), (1, 2), (0, 1)]]
        self.assertEqual(above(lasting()), (table, [(0, 1, carrying)]))
        self.assertEqual(below(lasting()), (table, [(0, 1, [(1, 3), (0, 1), (1, 1)])]))

    def test_refusals_and_fades(self):
        for lets, told in KINDS:
            check_no_machine(self, told)
            check_no_machine(self, told, (1, 1))
            for machine in (one_room(), coins()):
                check_fades(self, lambda *fade, **named: told(machine, *fade, **named))
            self.assertEqual(told(fade=(1, 3), machine=coins()), told(coins(), (1, 3)))

    def test_own_lists(self):
        for lets, told in KINDS:
            for machine in telling_machines():
                check_own_lists(self, lambda: told(machine, (2, 3)))
                check_left_alone(self, told, machine, (2, 3))


class Lets(unittest.TestCase):
    def test_wrong_forms(self):
        for lets, told in KINDS:
            for machine in (one_room(), coins(), lasting(), with_twins()):
                paper = told(machine)
                for place, thing in enumerate(wrong_forms(machine, paper)):
                    with self.subTest(place=place):
                        self.assertIs(lets(machine, thing), False)

    def test_truths_in_the_place_of_rooms(self):
        for lets, told in KINDS:
            table, entries = told(lasting())
            self.assertIs(lets(lasting(), (table, [(0, 1, entries[0][2])])), True)
            for one, other in ((False, 1), (0, True), (False, True)):
                self.assertIs(lets(lasting(), (table, [(one, other, entries[0][2])])), False)

    def test_refusals_are_ahead_of_any_answer(self):
        for lets, told in KINDS:
            for thing in (told(coins()), None, "paper", (), []):
                check_no_machine(self, lets, thing)
                check_no_machine(self, lets, thing, (1, 1))
                check_fades(self, lambda *fade, **named: lets(coins(), thing, *fade, **named))

    def test_by_names_and_left_alone(self):
        for lets, told in KINDS:
            paper = told(coins(), (1, 3))
            self.assertIs(lets(fade=(1, 3), thing=paper, machine=coins()), True)
            check_left_alone(self, lets, coins(), paper, (1, 3))

    def test_the_paper_of_another_fade(self):
        for machine in (coins(), lasting(), chain()):
            self.assertIs(lets_above(machine, above(machine, (2, 3)), (1, 2)), True)
            self.assertIs(lets_above(machine, above(machine, (1, 3)), (1, 2)), False)
            self.assertIs(lets_below(machine, below(machine, (1, 3)), (1, 2)), True)
            self.assertIs(lets_below(machine, below(machine, (2, 3)), (1, 2)), False)

    def test_no_like_marks(self):
        machine = Machine(["a", "b"], [[(1, 2), (1, 2)], [(0, 1), (1, 1)]])
        for gap in ((1, 1), (1, 2), (0, 1)):
            self.assertIs(lets_above(machine, (even_table(len(machine), gap), [])), gap == (1, 1))
            self.assertIs(lets_below(machine, (even_table(len(machine), gap), [])), True)


class LetsAbove(unittest.TestCase):
    def test_greater_tables(self):
        for machine in telling_machines() + random_machines(23, 10):
            for fade in FADES[:3]:
                table = even_table(len(machine), (1, 1))
                entries = [(one, other, mixed(machine, one, other)) for one, other in like_rooms(machine)]
                self.assertIs(lets_above(machine, (table, entries), fade), True)
                for step in range(4):
                    self.assertIs(lets_above(machine, paper_by(machine, table, 1), fade), True)
                    self.assertTrue(all_at_most(distances(machine, fade), table))
                    table = next_table(machine, table, fade)

    def test_lesser_tables(self):
        for machine in telling_machines():
            for fade in FADES[:3]:
                for table in tables_by(machine, 5, fade):
                    lets = lets_above(machine, paper_by(machine, table, 1), fade)
                    self.assertIs(lets, table == distances(machine, fade))

    def test_a_little_too_dear(self):
        for machine in telling_machines():
            paper = above(machine)
            for one, other in like_rooms(machine):
                if paper[0][one][other] != (0, 1):
                    less = changed_at(paper[0], one, other, pair(number_of(paper[0][one][other]) - LITTLE))
                    self.assertIs(lets_above(machine, (less, paper[1])), False)
        dear = mixed(coins(), 0, 2)
        self.assertIs(lets_above(coins(), with_last(above(coins()), 0, dear)), False)
        self.assertIs(lets_above(coins(), (changed_at(above(coins())[0], 0, 2, (1, 2)), [(0, 2, dear)])), True)

    def test_a_little_too_dear_for_one_carrying(self):
        table = above(coins())[0]
        least = [[(1, 4), (0, 1), (1, 4)], [(0, 1), (1, 4), (1, 4)], [(0, 1), (0, 1), (0, 1)]]
        self.assertIs(lets_above(coins(), (table, [(0, 2, least)])), True)
        # A little of what could stay in 0 and in 1 is exchanged between them.
        little = pair(LITTLE)
        dear = [
            [pair(Fraction(1, 4) - LITTLE), little, (1, 4)], [little, pair(Fraction(1, 4) - LITTLE), (1, 4)],
            [(0, 1), (0, 1), (0, 1)],
        ]
        check_carrying(self, coins().shares_of(0), coins().shares_of(2), dear)
        self.assertIs(lets_above(coins(), (table, [(0, 2, dear)])), False)
        more = changed_at(table, 0, 2, pair(Fraction(1, 7) + 2 * LITTLE))
        self.assertIs(lets_above(coins(), (more, [(0, 2, dear)])), True)

    def test_carryings_of_the_wrong_form(self):
        paper = above(coins())
        good = paper[1][0][2]
        wrong = unlike_lengths(good) + [tuple(good), [tuple(row) for row in good], [list(row) for row in zip(*good)]]
        wrong += [changed for place, thing, changed in with_each_place(good, NO_LISTS + unlike_lengths(good[0]))]
        for place, row in enumerate(good):
            for at, thing, changed in with_each_place(row, NO_FRACTIONS + [(-1, 4), (1, 9)]):
                wrong.append(good[:place] + [changed] + good[place + 1:])
        for place, thing in enumerate(wrong):
            with self.subTest(place=place):
                self.assertIs(lets_above(coins(), with_last(paper, 0, thing)), False)

    def test_rooms_exchanged(self):
        table, entries = above(coins())
        back = [list(row) for row in zip(*entries[0][2])]
        self.assertIs(lets_above(coins(), (table, [(2, 0, back)])), False)
        self.assertIs(lets_above(coins(), (table, [(0, 2, back)])), False)

    def test_not_one_where_marks_are_unlike(self):
        for machine in telling_machines():
            table, entries = above(machine)
            for one, other in itertools.combinations(range(len(machine)), 2):
                if machine.mark(one) != machine.mark(other):
                    for gap in (pair(1 - LITTLE), (1, 2), (0, 1)):
                        self.assertIs(lets_above(machine, (changed_at(table, one, other, gap), entries)), False)

    def test_a_table_without_corners(self):
        table, entries = above(chain())
        greater = changed_at(table, 0, 1, (1, 1))
        self.assertIs(has_corners(greater), False)
        self.assertIs(lets_above(chain(), (greater, entries)), True)
        greater = changed_at(table, 1, 2, (1, 1))
        self.assertIs(has_corners(greater), False)
        self.assertIs(lets_above(chain(), (greater, entries)), False)


class LetsBelow(unittest.TestCase):
    def test_lesser_tables(self):
        for machine in telling_machines() + random_machines(24, 10):
            for fade in FADES[:3]:
                for table in tables_by(machine, 5, fade):
                    self.assertIs(lets_below(machine, paper_by(machine, table, 2), fade), True)
                    self.assertTrue(all_at_most(table, distances(machine, fade)))

    def test_greater_tables(self):
        for machine in telling_machines():
            for fade in FADES[:3]:
                table = even_table(len(machine), (1, 1))
                for step in range(4):
                    lets = lets_below(machine, paper_by(machine, table, 2), fade)
                    self.assertIs(lets, table == distances(machine, fade))
                    table = next_table(machine, table, fade)

    def test_a_little_too_little(self):
        for machine in telling_machines():
            paper = below(machine)
            for place, (one, other) in enumerate(like_rooms(machine)):
                more = changed_at(paper[0], one, other, pair(number_of(paper[0][one][other]) + LITTLE))
                self.assertIs(lets_below(machine, (more, paper[1])), False)
                if paper[0][one][other] != (0, 1):
                    shrunk = [pair(number_of(price) * (1 - LITTLE)) for price in paper[1][place][2]]
                    self.assertIs(lets_below(machine, with_last(paper, place, shrunk)), False)

    def test_prices_too_far_apart(self):
        for machine in (coins(), lasting(), chain()):
            paper = below(machine)
            for place, entry in enumerate(paper[1]):
                grown = [pair(number_of(price) * (1 + LITTLE)) for price in entry[2]]
                self.assertIs(lets_below(machine, with_last(paper, place, grown)), False)

    def test_any_prices_and_the_other_way_about(self):
        for machine in telling_machines():
            paper = below(machine, (2, 3))
            for place, entry in enumerate(paper[1]):
                prices = [number_of(price) for price in entry[2]]
                for sign, move in ((1, 5), (1, Fraction(-1, 3)), (-1, 0), (-1, 1), (-1, 10 ** 40)):
                    moved = [pair(sign * price + move) for price in prices]
                    self.assertIs(lets_below(machine, with_last(paper, place, moved), (2, 3)), True)

    def test_prices_of_the_wrong_form(self):
        paper = below(coins())
        good = paper[1][0][2]
        wrong = unlike_lengths(good) + [tuple(good), [good], dict(enumerate(good)), above(coins())[1][0][2]]
        wrong += [changed for place, thing, changed in with_each_place(good, NO_FRACTIONS)]
        for place, thing in enumerate(wrong):
            with self.subTest(place=place):
                self.assertIs(lets_below(coins(), with_last(paper, 0, thing)), False)

    def test_a_table_of_noughts(self):
        for machine in telling_machines():
            entries = [(one, other, [(7, 3)] * len(machine)) for one, other in like_rooms(machine)]
            self.assertIs(lets_below(machine, (even_table(len(machine), (0, 1)), entries)), True)

    def test_a_table_without_corners(self):
        table = distances(chain())
        for other in (1, 2):
            table = changed_at(table, 0, other, (0, 1))
        self.assertIs(has_corners(table), False)
        entries = []
        for one, other in like_rooms(chain()):
            price = (0, 1) if other < 2 else (1, 2 ** (4 - other))
            entries.append((one, other, [price if room <= other else (0, 1) for room in range(6)]))
        self.assertIs(lets_below(chain(), (table, entries)), True)
        self.assertIs(lets_below(chain(), (changed_at(table, 0, 1, (1, 16)), entries)), False)


class Between(unittest.TestCase):
    def test_whatever_is_let_by_has_the_distances_between(self):
        source = random.Random(25)
        let = [0, 0]
        for machine in [coins(), lasting(), with_twins()] + random_machines(26, 6):
            exact = distances(machine)
            papers = [(above(machine), below(machine))]
            papers += [
                (paper_by(machine, table, 1), paper_by(machine, table, 2)) for table in tables_by(machine, 3)
            ]
            for often in range(40):
                over, under = source.choice(papers)
                factor = Fraction(source.randint(0, 12), 8)
                table = [[pair(min(number_of(gap) * factor, Fraction(1))) for gap in row] for row in over[0]]
                if source.random() < 0.5:
                    table = [
                        [gap if machine.mark(one) == machine.mark(other) else (1, 1) for other, gap in enumerate(row)]
                        for one, row in enumerate(table)
                    ]
                if lets_above(machine, (table, over[1])):
                    let[0] += 1
                    self.assertTrue(all_at_most(exact, table))
                shrunk = [(one, other, [pair(number_of(price) * min(factor, 1)) for price in prices])
                          for one, other, prices in under[1]]
                if lets_below(machine, (table, shrunk)):
                    let[1] += 1
                    self.assertTrue(all_at_most(table, exact))
        self.assertGreater(min(let), 20)


if __name__ == "__main__":
    unittest.main()
