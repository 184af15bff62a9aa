"""Two machines side by side: rooms of both together, how far they are apart, and which are alike."""

from neartwins.errors import TooMany
from neartwins.fractions import NOUGHT
from neartwins.lumps import number_in, rounds_of
from neartwins.machines import MOST_ROOMS, Machine, check_machines
from neartwins.solving import solved
from neartwins.tables import meant_fade


def noughts(machine):
    """A share of nought for each room of a machine."""
    return [NOUGHT for room in range(len(machine))]


def marks_beside(one, other):
    """The marks of the rooms of two machines, the first one's ahead."""
    return one.marks() + other.marks()


def shares_beside(one, other):
    """The shares of the rooms of two machines, none of which goes on to the other one's rooms."""
    ones = [row + noughts(other) for row in one.shares()]
    others = [noughts(one) + row for row in other.shares()]
    return ones + others


def set_beside(one, other):
    """What beside tells, of two Machines."""
    if len(one) + len(other) > MOST_ROOMS:
        raise TooMany("two machines side by side have at most 6 rooms together")
    return Machine(marks_beside(one, other), shares_beside(one, other))


def beside(one, other):
    """The machine with the rooms of the first, then those of the second."""
    check_machines(one, other)
    return set_beside(one, other)


def between(one, other, fade=None):
    """For each room of the first machine, and each of the second, how far they are apart side by side."""
    check_machines(one, other)
    both = set_beside(one, other)
    table = solved(both, meant_fade(fade))
    return [row[len(one):] for row in table[:len(one)]]


def lumps_beside(one, other):
    """The numbers of the lumps, side by side, in which the first one's rooms are, and the second one's."""
    lumps = rounds_of(marks_beside(one, other), shares_beside(one, other))[-1]
    numbers = [number_in(lumps, room) for room in range(len(one) + len(other))]
    return numbers[:len(one)], numbers[len(one):]


def twins_of(one, other):
    """For each room of the first machine the rooms of the second, rising, that are alike to it."""
    check_machines(one, other)
    ones, others = lumps_beside(one, other)
    return [[room for room, lump in enumerate(others) if lump == own] for own in ones]


def alike_machines(one, other):
    """Whether each room of either machine is alike to one of the other."""
    check_machines(one, other)
    ones, others = lumps_beside(one, other)
    return set(ones) == set(others)
