"""Papers from above and from below whose table is that of the distances."""

from neartwins.cheapest import cheapest_by
from neartwins.machines import check_machine
from neartwins.solving import solved
from neartwins.tables import like_pairs, meant_fade


def cheapest_of_pairs(machine, table):
    """For each two rooms with like marks (one, other, carrying, prices), the cheapest by this table."""
    shares = machine.shares()
    found = []
    for one, other in like_pairs(machine.marks()):
        least, carrying, prices = cheapest_by(shares[one], shares[other], table)
        found.append((one, other, carrying, prices))
    return found


def above(machine, fade=None):
    """A paper from above for the very distances: (table, carryings)."""
    check_machine(machine)
    table = solved(machine, meant_fade(fade))
    return (table, [(one, other, carrying) for one, other, carrying, prices in cheapest_of_pairs(machine, table)])


def below(machine, fade=None):
    """A paper from below for the very distances: (table, prices)."""
    check_machine(machine)
    table = solved(machine, meant_fade(fade))
    return (table, [(one, other, prices) for one, other, carrying, prices in cheapest_of_pairs(machine, table)])
