"""Tables step by step: what the cheapest carryings make of a table, later steps counting less by a fade."""

from neartwins.cheapest import check_table, whole_shares, whole_table
from neartwins.errors import NoFade, NoNumber
from neartwins.flows import cheapest_flow, flow_cost
from neartwins.fractions import NOUGHT, ONE, is_fraction, is_whole_within, reduced
from neartwins.machines import GREATEST_BOTTOM, check_machine

USUAL_FADE = (1, 2)
MOST_TABLES = 8


def is_fade(thing):
    """Whether this, which may be anything, is a fraction above 0 and below 1 of at most three figures each."""
    return is_fraction(thing) and 0 < thing[0] < thing[1] <= GREATEST_BOTTOM


def meant_fade(fade):
    """The fade that is meant, which is (1, 2) by None; refused with NoFade where it is none."""
    if fade is None:
        return USUAL_FADE
    if not is_fade(fade):
        raise NoFade("a fade is a fraction above 0 and below 1, of at most three figures each")
    return fade


def like_pairs(marks):
    """All two rooms (one, other) with like marks, one below other, rising."""
    rooms = list(range(len(marks)))
    return [(one, other) for one in rooms for other in rooms if one < other and marks[one] == marks[other]]


def gap_within(marks, gaps, one, other):
    """What a table has for two rooms, where gaps has a fraction for each two with like marks."""
    if one == other:
        return NOUGHT
    if marks[one] != marks[other]:
        return ONE
    return gaps[(min(one, other), max(one, other))]


def table_of(marks, gaps):
    """The table with these gaps between rooms with like marks."""
    rooms = list(range(len(marks)))
    return [[gap_within(marks, gaps, one, other) for other in rooms] for one in rooms]


def table_behind(machine, table, fade):
    """The next table, of a table with corners and a fade."""
    marks = machine.marks()
    shares = machine.shares()
    tops, bottom = whole_table(table)
    gaps = {}
    for one, other in like_pairs(marks):
        givings, takings, whole = whole_shares(shares[one], shares[other])
        least = flow_cost(cheapest_flow(givings, takings, tops), tops)
        gaps[(one, other)] = reduced(fade[0] * least, fade[1] * whole * bottom)
    return table_of(marks, gaps)


def next_table(machine, table, fade=None):
    """The table that the cheapest carryings by this table make, times the fade."""
    check_machine(machine)
    check_table(len(machine), table)
    return table_behind(machine, table, meant_fade(fade))


def tables_by(machine, steps, fade=None):
    """The table of noughts, its next one, and so on, so many tables more."""
    check_machine(machine)
    if not is_whole_within(steps, 0, MOST_TABLES):
        raise NoNumber("steps are a whole number from 0 to 8")
    meant = meant_fade(fade)
    rooms = list(range(len(machine)))
    tables = [[[NOUGHT for other in rooms] for one in rooms]]
    for step in range(steps):
        tables.append(table_behind(machine, tables[-1], meant))
    return tables
