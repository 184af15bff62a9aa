"""What several tests need: things of all kinds, sample machines, and a second way to reckon."""

import copy
import random
import time
from fractions import Fraction

from neartwins.errors import NoFade, NoMachine, NoRoom
from neartwins.machines import Machine


class Odd:
    """An object that answers nothing: whoever looks into it without need breaks."""

    def __eq__(self, other):
        raise AssertionError("an odd thing was compared")

    def __len__(self):
        raise AssertionError("an odd thing was measured")

    def __iter__(self):
        raise AssertionError("an odd thing was walked through")

    def __getitem__(self, at):
        raise AssertionError("an odd thing was looked into")

    def __bool__(self):
        raise AssertionError("an odd thing was asked for its truth")

    __hash__ = None


NO_WHOLES = [
    True, False, None, "", "0", "1", "a", b"1", [], [0], [1], (), (0,), (0, 1), (1, 1), {}, {0: 1}, set(), object(),
    Odd(), int, len,
]

NO_FRACTIONS = [
    True, False, None, 0, 1, -1, "", "1/2", "ab", b"ab", [], [1, 2], [0, 1], (), (1,), (1, 2, 3), (0, 1, 1), {},
    {0: 1, 1: 2}, {1, 2}, object(), Odd(), tuple, (True, 2), (1, True), (False, 1), (0, True), (None, 1), (1, None),
    ("1", 2), (1, "2"), ((1,), 2), (1, (2,)), ([1], 2), (1, [2]), (Odd(), 2), (1, Odd()), (0, 0), (1, 0), (1, -2),
    (-1, -2), (0, -1), (0, 2), (2, 4), (-2, 4), (6, 3), (10 ** 59, 10 ** 59), (2, 10 ** 59),
]

NO_LISTS = [
    True, False, None, 0, 1, 6, -1, "", "a", "abc", b"a", (), ("a",), ((1, 1),), ([(1, 1)],), {}, {0: "a"}, {"a"},
    object(), Odd(), list,
]

NO_MARKS = [
    True, False, None, 0, 1, "", "abcde", "abcdef", "A", "aB", "a1", "1", " ", "a ", " a", "a b", "a-", "-", "`", "{",
    "a{", "`a", "a\n", "\t", b"a", [], ["a"], (), ("a",), {}, {"a": 1}, object(), Odd(), str,
]


NO_MACHINES = NO_LISTS + [
    [], ["a"], (["a"], [[(1, 1)]]), [["a"], [[(1, 1)]]], "Machine(['a'], [[(1, 1)]])", "a 0:1", (1, 1), Machine,
]

# What no call takes as a fade; None is left out, since it means (1, 2).
NO_FADES = [thing for thing in NO_FRACTIONS if thing is not None] + [
    (0, 1), (1, 1), (2, 1), (3, 2), (-1, 2), (-1, 1), (1000, 999), (1, 1000), (999, 1000), (1, 10 ** 59),
    (10 ** 59 - 1, 10 ** 59),
]
FADES = [(1, 2), (1, 999), (998, 999), (1, 3), (2, 3), (500, 999)]


def one_room():
    """A machine of one room."""
    return Machine(["a"], [[(1, 1)]])


def coins():
    """A machine of three rooms, two of them with the same mark."""
    return Machine(
        ["a", "b", "a"],
        [
            [(1, 2), (1, 2), (0, 1)],
            [(0, 1), (1, 3), (2, 3)],
            [(1, 4), (1, 4), (1, 2)],
        ],
    )


def one_way():
    """A machine of four rooms whose later rooms never go back."""
    return Machine(
        ["go", "go", "stop", "end"],
        [
            [(0, 1), (1, 2), (1, 2), (0, 1)],
            [(0, 1), (0, 1), (1, 1), (0, 1)],
            [(0, 1), (0, 1), (1, 1), (0, 1)],
            [(1, 999), (0, 1), (0, 1), (998, 999)],
        ],
    )


def six_rooms():
    """A machine of six rooms, with shares of three figures and marks of one and four letters."""
    return Machine(
        ["a", "b", "abcd", "a", "zzzz", "b"],
        [
            [(1, 6), (1, 6), (1, 6), (1, 6), (1, 6), (1, 6)],
            [(0, 1), (997, 999), (2, 999), (0, 1), (0, 1), (0, 1)],
            [(1, 2), (1, 4), (1, 8), (1, 16), (1, 32), (1, 32)],
            [(0, 1), (0, 1), (0, 1), (0, 1), (0, 1), (1, 1)],
            [(1, 3), (0, 1), (1, 3), (0, 1), (1, 3), (0, 1)],
            [(1, 10), (2, 5), (1, 100), (9, 100), (3, 20), (1, 4)],
        ],
    )


def lasting():
    """A machine for which the tables by steps never come to the distances: the first two rooms are at f / (2 - f)."""
    return Machine(["a", "a", "b"], [[(1, 2), (0, 1), (1, 2)], [(0, 1), (1, 1), (0, 1)], [(0, 1), (0, 1), (1, 1)]])


def chain():
    """Six rooms, each of which goes on to the next one, the last to itself, which alone has another mark.

    So room one and a later room other are at f multiplied by itself, 5 - other times in all.
    """
    rooms = range(6)
    onward = [[(1, 1) if to == min(room + 1, 5) else (0, 1) for to in rooms] for room in rooms]
    return Machine(["a", "a", "a", "a", "a", "b"], onward)


def with_twins():
    """Six rooms of which 0 and 3 are alike, and 1 and 4: they go on otherwise, but with like shares to lumps."""
    return Machine(
        ["a", "b", "a", "a", "b", "a"],
        [
            [(1, 2), (1, 4), (0, 1), (0, 1), (1, 4), (0, 1)],
            [(0, 1), (0, 1), (1, 1), (0, 1), (0, 1), (0, 1)],
            [(0, 1), (1, 3), (1, 3), (1, 3), (0, 1), (0, 1)],
            [(1, 8), (1, 2), (0, 1), (3, 8), (0, 1), (0, 1)],
            [(0, 1), (0, 1), (1, 1), (0, 1), (0, 1), (0, 1)],
            [(0, 1), (2, 3), (1, 3), (0, 1), (0, 1), (0, 1)],
        ],
    )


def great_figures():
    """Six rooms, five with one mark, whose shares have three figures and unlike bottoms."""
    primes = [331, 317, 313, 311, 307, 293, 283, 281, 277]
    shares = []
    for room in range(6):
        row = []
        for place in range(3):
            prime = primes[(2 * room + 3 * place) % len(primes)]
            part = 17 * room + 61 * place + 5
            row += [pair(Fraction(part, 3 * prime)), pair(Fraction(prime - part, 3 * prime))]
        shares.append(row[room:] + row[:room])
    return Machine(["a"] * 5 + ["b"], shares)


def random_shares(chance_source, many, bottom):
    """So many fractions with this bottom or a divisor of it, together 1, some of them nought."""
    tops = [0] * many
    for part in range(min(bottom, 12)):
        tops[chance_source.randrange(many)] += bottom // min(bottom, 12)
    tops[chance_source.randrange(many)] += bottom - sum(tops)
    return [pair(Fraction(top, bottom)) for top in tops]


def random_machines(seed, often):
    """So many machines of 2 to 6 rooms, always the same ones for a seed."""
    source = random.Random(seed)
    found = []
    for each in range(often):
        many = source.choice([2, 3, 4, 5, 6, 6])
        marks = [source.choice(["a", "a", "b"]) for room in range(many)]
        bottoms = [source.choice([1, 2, 3, 4, 5, 10, 997, 999]) for room in range(many)]
        found.append(Machine(marks, [random_shares(source, many, bottom) for bottom in bottoms]))
    return found


def sample_machines():
    """One machine of each sample."""
    return [one_room(), coins(), one_way(), six_rooms()]


def telling_machines():
    """The samples, and those whose distances are of more interest."""
    return sample_machines() + [lasting(), chain(), with_twins(), great_figures()]


def spread_evenly(onward):
    """A machine whose rooms all have unlike marks and go on evenly to the rooms that onward lists for each."""
    rooms = range(len(onward))
    return Machine(
        ["abcdef"[room] for room in rooms],
        [[(1, len(onward[room])) if to in onward[room] else (0, 1) for to in rooms] for room in rooms],
    )


def all_walks(machine, room, many):
    """Each walk through so many rooms, with the chance of it: the slow way to reckon, which the program never goes."""
    walks = [([room], Fraction(1))]
    for step in range(many - 1):
        walks = [
            (walk + [to], each * number_of(share))
            for walk, each in walks
            for to, share in enumerate(machine.shares_of(walk[-1]))
            if share != (0, 1)
        ]
    return walks


def pair(number):
    """The program's fraction of one of Python's own."""
    return (number.numerator, number.denominator)


def number_of(one):
    """Python's own fraction of one of the program's."""
    return Fraction(one[0], one[1])


def with_each_place(good, wrong_things):
    """Lists like good, but with one wrong thing in the stead of one of its things."""
    for place in range(len(good)):
        for wrong in wrong_things:
            changed = list(good)
            changed[place] = wrong
            yield place, wrong, changed


def unlike_lengths(good):
    """Lists like good, but empty, shorter, longer and doubled."""
    return [[], good[:-1], good + [good[0]], good + good]


def spoil(thing):
    """Change a told list and all lists within it as much as can be."""
    if isinstance(thing, (list, tuple)):
        for each in thing:
            spoil(each)
    if isinstance(thing, list):
        thing.append("spoilt")
        thing.reverse()


def lists_within(thing):
    """All lists in a told thing, itself included."""
    found = [thing] if isinstance(thing, list) else []
    if isinstance(thing, (list, tuple)):
        for each in thing:
            found.extend(lists_within(each))
    return found


def check_own_lists(test, ask):
    """That an answer is told alike after an earlier one was spoilt, and that no list of it stands twice."""
    first = ask()
    kept = copy.deepcopy(first)
    numbers = [id(each) for each in lists_within(first)]
    test.assertEqual(len(numbers), len(set(numbers)))
    second = ask()
    test.assertFalse(set(numbers) & {id(each) for each in lists_within(second)})
    spoil(first)
    test.assertEqual(second, kept)
    test.assertEqual(ask(), kept)


def check_left_alone(test, call, *handed):
    """That a call leaves what it is handed as it was; the call may refuse it."""
    before = repr(handed)
    try:
        call(*handed)
    except (ValueError, IndexError):
        pass
    test.assertEqual(repr(handed), before)


def check_no_machine(test, call, *behind):
    """That whatever is no machine is refused as the first argument, whatever stands behind it."""
    for thing in NO_MACHINES:
        with test.assertRaises(NoMachine) as caught:
            call(thing, *behind)
        test.assertEqual((caught.exception.part, caught.exception.number), ("machine", None))


def check_no_room(test, machine, call):
    """That whatever is no room of this machine is refused by the call, with what was handed in."""
    for room in [-1, -len(machine), len(machine), len(machine) + 1, 10 ** 59] + NO_WHOLES:
        with test.assertRaises(NoRoom) as caught:
            call(room)
        test.assertIs(caught.exception.room, room)


def check_fades(test, call):
    """That whatever is no fade is refused, by place and by name, and that (1, 2) is meant where there is none."""
    for thing in NO_FADES:
        with test.assertRaises(NoFade):
            call(thing)
        with test.assertRaises(NoFade):
            call(fade=thing)
    half = call((1, 2))
    test.assertEqual([call(), call(None), call(fade=None), call(fade=(1, 2))], [half] * 4)


def check_in_good_time(test, ask):
    """What is told, which must not be long in coming; the bound is wide, for slow machines."""
    start = time.perf_counter()
    told = ask()
    test.assertLess(time.perf_counter() - start, 10)
    return told


def even_table(many, gap):
    """The table for so many places that has this gap between any two."""
    return [[(0, 1) if one == other else gap for other in range(many)] for one in range(many)]


def changed_at(table, one, other, gap):
    """A table like this one, but for two places."""
    changed = [list(row) for row in table]
    changed[one][other] = changed[other][one] = gap
    return changed


def like_rooms(machine):
    """All two rooms, the lesser first, with like marks, in their order."""
    rooms = range(len(machine))
    marks = machine.marks()
    return [(one, other) for one in rooms for other in rooms if one < other and marks[one] == marks[other]]


def cost_of(table, carrying):
    """What a carrying costs, reckoned by Python's own fractions."""
    places = range(len(table))
    return sum(
        [number_of(table[one][other]) * number_of(carrying[one][other]) for one in places for other in places],
        Fraction(0),
    )


def earned_by(ones, others, prices):
    """What prices earn, reckoned by Python's own fractions."""
    return sum(
        [number_of(price) * (number_of(one) - number_of(other)) for one, other, price in zip(ones, others, prices)],
        Fraction(0),
    )


def check_carrying(test, ones, others, carrying):
    """That this is a carrying of ones onto others, by Python's own fractions."""
    numbers = [[number_of(each) for each in row] for row in carrying]
    test.assertEqual(carrying, [[pair(each) for each in row] for row in numbers])
    test.assertTrue(all(each >= 0 for row in numbers for each in row))
    test.assertEqual([pair(sum(row)) for row in numbers], ones)
    test.assertEqual([pair(sum(column)) for column in zip(*numbers)], others)


def check_prices(test, table, prices):
    """That these are prices for a table, all from 0 to 1, by Python's own fractions."""
    numbers = [number_of(each) for each in prices]
    test.assertEqual(prices, [pair(each) for each in numbers])
    test.assertEqual(len(prices), len(table))
    test.assertTrue(all(0 <= each <= 1 for each in numbers))
    for one, row in zip(numbers, table):
        for other, gap in zip(numbers, row):
            test.assertLessEqual(abs(one - other), number_of(gap))


def least_cost(test, ones, others, table, told):
    """What a told cheapest carrying costs, when all is as it must be: so nothing else can cost less."""
    test.assertIsInstance(told, tuple)
    least, carrying, prices = told
    check_carrying(test, ones, others, carrying)
    check_prices(test, table, prices)
    test.assertEqual(least, pair(cost_of(table, carrying)))
    test.assertEqual(least, pair(earned_by(ones, others, prices)))
    return number_of(least)


def random_rows(source, many):
    """So many rows of a sheet, each but the first few mostly made of rows shortly ahead of it."""
    rows = [("mark", "a"), ("mark", "b")][:many]
    while len(rows) < many:
        one = max(source.randrange(len(rows)), source.randrange(len(rows)))
        other = source.randrange(len(rows))
        cut = pair(Fraction(source.randrange(4), source.choice([3, 4, 7, 50, 999])))
        rows.append(source.choice([
            ("mark", source.choice(["a", "b", "zzzz"])), ("next", one), ("next", one), ("not", one), ("less", one, cut),
            ("least", one, other), ("most", one, other), ("most", other, one),
        ]))
    return rows


def values_by_hand(rows, machine, fade):
    """The values of a sheet's rows, reckoned by Python's own fractions."""
    told = []
    for word, *parts in rows:
        if word == "mark":
            told.append([Fraction(mark == parts[0]) for mark in machine.marks()])
            continue
        ones = told[parts[0]]
        if word == "next":
            told.append([
                number_of(fade) * sum([number_of(share) * value for share, value in zip(row, ones)], Fraction(0))
                for row in machine.shares()
            ])
        elif word == "not":
            told.append([1 - value for value in ones])
        elif word == "less":
            told.append([max(value - number_of(parts[1]), Fraction(0)) for value in ones])
        else:
            pick = min if word == "least" else max
            told.append([pick(value, other) for value, other in zip(ones, told[parts[1]])])
    return told


def random_twins(seed, often):
    """So many tuples of two machines with the same marks, of which some or all rooms have other shares."""
    source = random.Random(seed)
    found = []
    for machine in random_machines(seed, often):
        many = len(machine)
        shares = machine.shares()
        for room in source.sample(range(many), source.randrange(1, many + 1)):
            if source.randrange(2):
                shares[room] = random_shares(source, many, source.choice([1, 3, 10, 999]))
            else:
                shares[room] = shares[room][1:] + shares[room][:1]
        found.append((machine, Machine(machine.marks(), shares)))
    return found


def greatest_gap(table, other):
    """How far two tables are apart at most, by Python's own fractions."""
    return max(
        abs(number_of(gap) - number_of(across)) for row, rows in zip(table, other) for gap, across in zip(row, rows)
    )
