"""How far distances move where shares change."""

from neartwins.errors import NoTwins
from neartwins.fractions import NOUGHT, ONE, apart, minus, over, times, total, under
from neartwins.machines import check_machines
from neartwins.solving import solved
from neartwins.tables import meant_fade

HALF = (1, 2)
TWICE = (2, 1)


def check_twins(one, other):
    """Refuse two things that are no Machines, then two Machines that have not the same marks."""
    check_machines(one, other)
    if one.marks() != other.marks():
        raise NoTwins("two machines are twins where they have the same marks")


def greatest(some):
    """The greatest of some fractions from nought on, nought where there is none."""
    most = NOUGHT
    for each in some:
        if under(most, each):
            most = each
    return most


def all_apart(rows, others):
    """For each row how far its fractions are apart from those at the same places of another one."""
    return [[apart(one, other) for one, other in zip(row, across)] for row, across in zip(rows, others)]


def greatest_move(table, other):
    """How far, at most, two tables for as many places are apart at one place."""
    return greatest([gap for row in all_apart(table, other) for gap in row])


def spread_of(one, other):
    """What spread tells, of twins."""
    return greatest([times(HALF, total(row)) for row in all_apart(one.shares(), other.shares())])


def spread(one, other):
    """The greatest, over all rooms of twins, of half the sum of how far the shares of that room are apart."""
    check_twins(one, other)
    return spread_of(one, other)


def most_moved(one, other, fade=None):
    """The most by which any distance moves between twins, by their spread alone."""
    check_twins(one, other)
    meant = meant_fade(fade)
    much = spread_of(one, other)
    kept = times(meant, minus(ONE, much))
    from_twin = over(times(meant, much), minus(ONE, kept))
    twice = times(TWICE, from_twin)
    return ONE if under(ONE, twice) else twice


def moved(one, other, fade=None):
    """How far, at most, the distances of two rooms in the one and in the other of twins are apart."""
    check_twins(one, other)
    meant = meant_fade(fade)
    return greatest_move(solved(one, meant), solved(other, meant))
