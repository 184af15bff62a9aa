"""Walking through a machine: where it stands behind so many steps, what it can come to, and its rooms renamed."""

from neartwins.errors import NoNumber, NoOrder
from neartwins.fractions import NOUGHT, ONE, is_whole, is_whole_within, times, total
from neartwins.machines import Machine, check_machine, check_room

MOST_STEPS = 12


def standing_in(many, room):
    """The chances with which a machine of so many rooms stands in each, where it surely stands in this one."""
    return [ONE if each == room else NOUGHT for each in range(many)]


def stepped(shares, chances):
    """The chances with which a machine of these shares stands in each room, a step behind those handed in."""
    rooms = list(range(len(shares)))
    return [total([times(chances[room], shares[room][to]) for room in rooms]) for to in rooms]


def where(machine, room, steps=1):
    """For each room the chance that the machine stands there behind so many steps from this one."""
    check_machine(machine)
    check_room(machine, room)
    if not is_whole_within(steps, 0, MOST_STEPS):
        raise NoNumber("steps are a whole number from 0 to 12")
    shares = machine.shares()
    chances = standing_in(len(machine), room)
    for step in range(steps):
        chances = stepped(shares, chances)
    return chances


def reached(machine, room):
    """The rooms, rising, that can be come to from this one in any number of steps, none too."""
    check_machine(machine)
    check_room(machine, room)
    shares = machine.shares()
    found = [room]
    looked_at = 0
    while looked_at < len(found):
        row = shares[found[looked_at]]
        for to, share in enumerate(row):
            if share[0] > 0 and to not in found:
                found.append(to)
        looked_at += 1
    return sorted(found)


def is_order(many, thing):
    """Whether this, which may be anything, is a list of the numbers of so many rooms, each once."""
    if not isinstance(thing, list) or not all([is_whole(each) for each in thing]):
        return False
    return sorted(thing) == list(range(many))


def renamed(machine, order):
    """The machine whose room k is this one's room order[k]."""
    check_machine(machine)
    if not is_order(len(machine), order):
        raise NoOrder("an order is a list of the rooms' numbers, each once")
    marks = machine.marks()
    shares = machine.shares()
    return Machine([marks[old] for old in order], [[shares[old][to] for to in order] for old in order])
