"""Machines made least: a room for each of the greatest lumps."""

from neartwins.errors import TooMany
from neartwins.lumps import greatest_lumps, number_in, shares_into
from neartwins.machines import Machine, check_machine, is_share


def made_least(machine):
    """A machine with a room for each of the greatest lumps, and for each room the number of its lump."""
    check_machine(machine)
    lumps = greatest_lumps(machine)
    firsts = [rooms[0] for rooms in lumps]
    shares = [list(shares_into(machine.shares_of(room), lumps)) for room in firsts]
    if not all([is_share(share) for row in shares for share in row]):
        raise TooMany("a share to a lump has more than three figures above or below")
    least = Machine([machine.mark(room) for room in firsts], shares)
    return (least, [number_in(lumps, room) for room in range(len(machine))])


def is_least(machine):
    """Whether no two rooms of a machine are alike."""
    check_machine(machine)
    return len(greatest_lumps(machine)) == len(machine)
