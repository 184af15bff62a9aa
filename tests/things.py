"""What several tests need: things of all kinds, sample machines, and a second way to reckon."""

import copy
from fractions import Fraction

from neartwins.errors import NoMachine, NoRoom
from neartwins.machines import Machine


class Odd:
    """An object that answers nothing: whoever looks into it without need breaks."""

    def __eq__(self, other):
        raise AssertionError("an odd thing was compared")

    def __len__(self):
        raise AssertionError("an odd thing was measured")

    def __iter__(self):
        raise AssertionError("an odd thing was walked through")

    def __getitem__(self, at):
        raise AssertionError("an odd thing was looked into")

    def __bool__(self):
        raise AssertionError("an odd thing was asked for its truth")

    __hash__ = None


NO_WHOLES = [
    True, False, None, "", "0", "1", "a", b"1", [], [0], [1], (), (0,), (0, 1), (1, 1), {}, {0: 1}, set(), object(),
    Odd(), int, len,
]

NO_FRACTIONS = [
    True, False, None, 0, 1, -1, "", "1/2", "ab", b"ab", [], [1, 2], [0, 1], (), (1,), (1, 2, 3), (0, 1, 1), {},
    {0: 1, 1: 2}, {1, 2}, object(), Odd(), tuple, (True, 2), (1, True), (False, 1), (0, True), (None, 1), (1, None),
    ("1", 2), (1, "2"), ((1,), 2), (1, (2,)), ([1], 2), (1, [2]), (Odd(), 2), (1, Odd()), (0, 0), (1, 0), (1, -2),
    (-1, -2), (0, -1), (0, 2), (2, 4), (-2, 4), (6, 3), (10 ** 59, 10 ** 59), (2, 10 ** 59),
]

NO_LISTS = [
    True, False, None, 0, 1, 6, -1, "", "a", "abc", b"a", (), ("a",), ((1, 1),), ([(1, 1)],), {}, {0: "a"}, {"a"},
    object(), Odd(), list,
]

NO_MARKS = [
    True, False, None, 0, 1, "", "abcde", "abcdef", "A", "aB", "a1", "1", " ", "a ", " a", "a b", "a-", "-", "`", "{",
    "a{", "`a", "a\n", "\t", b"a", [], ["a"], (), ("a",), {}, {"a": 1}, object(), Odd(), str,
]


NO_MACHINES = NO_LISTS + [
    [], ["a"], (["a"], [[(1, 1)]]), [["a"], [[(1, 1)]]], "Machine(['a'], [[(1, 1)]])", "a 0:1", (1, 1), Machine,
]


def one_room():
    """A machine of one room."""
    return Machine(["a"], [[(1, 1)]])


def coins():
    """A machine of three rooms, two of them with the same mark."""
    return Machine(
        ["a", "b", "a"],
        [
            [(1, 2), (1, 2), (0, 1)],
            [(0, 1), (1, 3), (2, 3)],
            [(1, 4), (1, 4), (1, 2)],
        ],
    )


def one_way():
    """A machine of four rooms whose later rooms never go back."""
    return Machine(
        ["go", "go", "stop", "end"],
        [
            [(0, 1), (1, 2), (1, 2), (0, 1)],
            [(0, 1), (0, 1), (1, 1), (0, 1)],
            [(0, 1), (0, 1), (1, 1), (0, 1)],
            [(1, 999), (0, 1), (0, 1), (998, 999)],
        ],
    )


def six_rooms():
    """A machine of six rooms, with shares of three figures and marks of one and four letters."""
    return Machine(
        ["a", "b", "abcd", "a", "zzzz", "b"],
        [
            [(1, 6), (1, 6), (1, 6), (1, 6), (1, 6), (1, 6)],
            [(0, 1), (997, 999), (2, 999), (0, 1), (0, 1), (0, 1)],
            [(1, 2), (1, 4), (1, 8), (1, 16), (1, 32), (1, 32)],
            [(0, 1), (0, 1), (0, 1), (0, 1), (0, 1), (1, 1)],
            [(1, 3), (0, 1), (1, 3), (0, 1), (1, 3), (0, 1)],
            [(1, 10), (2, 5), (1, 100), (9, 100), (3, 20), (1, 4)],
        ],
    )


def sample_machines():
    """One machine of each sample."""
    return [one_room(), coins(), one_way(), six_rooms()]


def spread_evenly(onward):
    """A machine whose rooms all have unlike marks and go on evenly to the rooms that onward lists for each."""
    rooms = range(len(onward))
    return Machine(
        ["abcdef"[room] for room in rooms],
        [[(1, len(onward[room])) if to in onward[room] else (0, 1) for to in rooms] for room in rooms],
    )


def all_walks(machine, room, many):
    """Each walk through so many rooms, with the chance of it: the slow way to reckon, which the program never goes."""
    walks = [([room], Fraction(1))]
    for step in range(many - 1):
        walks = [
            (walk + [to], each * number_of(share))
            for walk, each in walks
            for to, share in enumerate(machine.shares_of(walk[-1]))
            if share != (0, 1)
        ]
    return walks


def pair(number):
    """The program's fraction of one of Python's own."""
    return (number.numerator, number.denominator)


def number_of(one):
    """Python's own fraction of one of the program's."""
    return Fraction(one[0], one[1])


def with_each_place(good, wrong_things):
    """Lists like good, but with one wrong thing in the stead of one of its things."""
    for place in range(len(good)):
        for wrong in wrong_things:
            changed = list(good)
            changed[place] = wrong
            yield place, wrong, changed


def unlike_lengths(good):
    """Lists like good, but empty, shorter, longer and doubled."""
    return [[], good[:-1], good + [good[0]], good + good]


def spoil(thing):
    """Change a told list and all lists within it as much as can be."""
    if isinstance(thing, (list, tuple)):
        for each in thing:
            spoil(each)
    if isinstance(thing, list):
        thing.append("spoilt")
        thing.reverse()


def lists_within(thing):
    """All lists in a told thing, itself included."""
    found = [thing] if isinstance(thing, list) else []
    if isinstance(thing, (list, tuple)):
        for each in thing:
            found.extend(lists_within(each))
    return found


def check_own_lists(test, ask):
    """That an answer is told alike after an earlier one was spoilt, and that no list of it stands twice."""
    first = ask()
    kept = copy.deepcopy(first)
    numbers = [id(each) for each in lists_within(first)]
    test.assertEqual(len(numbers), len(set(numbers)))
    second = ask()
    test.assertFalse(set(numbers) & {id(each) for each in lists_within(second)})
    spoil(first)
    test.assertEqual(second, kept)
    test.assertEqual(ask(), kept)


def check_left_alone(test, call, *handed):
    """That a call leaves what it is handed as it was; the call may refuse it."""
    before = repr(handed)
    try:
        call(*handed)
    except (ValueError, IndexError):
        pass
    test.assertEqual(repr(handed), before)


def check_no_machine(test, call, *behind):
    """That whatever is no machine is refused as the first argument, whatever stands behind it."""
    for thing in NO_MACHINES:
        with test.assertRaises(NoMachine) as caught:
            call(thing, *behind)
        test.assertEqual((caught.exception.part, caught.exception.number), ("machine", None))


def check_no_room(test, machine, call):
    """That whatever is no room of this machine is refused by the call, with what was handed in."""
    for room in [-1, -len(machine), len(machine), len(machine) + 1, 10 ** 59] + NO_WHOLES:
        with test.assertRaises(NoRoom) as caught:
            call(room)
        test.assertIs(caught.exception.room, room)
