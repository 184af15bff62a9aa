"""Distances: the table that is its own next one."""

from neartwins.carryings import is_table
from neartwins.fractions import common
from neartwins.machines import check_machine, check_room
from neartwins.solving import solved
from neartwins.tables import meant_fade


def distances(machine, fade=None):
    """How far any two rooms are apart, a table."""
    check_machine(machine)
    return solved(machine, meant_fade(fade))


def distance(machine, one, other, fade=None):
    """How far two rooms are apart."""
    check_machine(machine)
    check_room(machine, one)
    check_room(machine, other)
    return solved(machine, meant_fade(fade))[one][other]


def by_distance(table, room):
    """What near tells of a room, by the table of distances."""
    row = table[room]
    tops = common(row)[0]
    others = [other for other in range(len(row)) if other != room]
    return [(row[other], other) for top, other in sorted([(tops[other], other) for other in others])]


def near(machine, room, fade=None):
    """All other rooms as tuples (distance, room), the nearest first, of equally near ones the lesser room."""
    check_machine(machine)
    check_room(machine, room)
    return by_distance(solved(machine, meant_fade(fade)), room)


def are_distances(machine, thing, fade=None):
    """Whether this, which may be anything, is the table of distances."""
    check_machine(machine)
    meant = meant_fade(fade)
    return is_table(len(machine), thing) and thing == solved(machine, meant)
