"""Lumps: lists of rooms that have the same mark and go on with the same shares to each lump."""

from neartwins.fractions import is_whole, total
from neartwins.machines import check_machine, check_room


def parted_by(keys):
    """The rooms parted into lists of those with the same key, each rising, the lists by their first rooms."""
    lists = {}
    for room, key in enumerate(keys):
        lists.setdefault(key, []).append(room)
    return list(lists.values())


def shares_into(row, parting):
    """The share that goes on to each list of a parting, by the shares of a room."""
    return tuple([total([row[to] for to in rooms]) for rooms in parting])


def number_in(parting, room):
    """The number of the list in which a room is."""
    return [room in rooms for rooms in parting].index(True)


def parted_again(shares, parting):
    """The rooms parted by the lists of a parting, and by the shares that go on to each of these."""
    return parted_by([(number_in(parting, room), shares_into(row, parting)) for room, row in enumerate(shares)])


def rounds_of(marks, shares):
    """What rounds tells, of the marks and the shares of however many rooms."""
    partings = [parted_by(marks)]
    finer = parted_again(shares, partings[-1])
    while finer != partings[-1]:
        partings.append(finer)
        finer = parted_again(shares, finer)
    return partings


def greatest_lumps(machine):
    """What lumps tells, of a Machine."""
    return rounds_of(machine.marks(), machine.shares())[-1]


def rounds(machine):
    """The partings of the rooms: by marks alone, then each by the one ahead and the shares that go on to its lists."""
    check_machine(machine)
    return rounds_of(machine.marks(), machine.shares())


def lumps(machine):
    """The greatest lumps."""
    check_machine(machine)
    return greatest_lumps(machine)


def alike(machine, one, other):
    """Whether two rooms are in one of the greatest lumps."""
    check_machine(machine)
    check_room(machine, one)
    check_room(machine, other)
    greatest = greatest_lumps(machine)
    return number_in(greatest, one) == number_in(greatest, other)


def is_parting(many, thing):
    """Whether this, which may be anything, is a list of lists of rooms, each of so many rooms in just one."""
    if not isinstance(thing, list) or not all([isinstance(each, list) for each in thing]):
        return False
    rooms = [room for each in thing for room in each]
    return all([is_whole(room) for room in rooms]) and sorted(rooms) == list(range(many))


def are_lumps(machine, thing):
    """Whether this, which may be anything, is lumps of this machine."""
    check_machine(machine)
    if not is_parting(len(machine), thing):
        return False
    marks = machine.marks()
    numbers = [number_in(thing, room) for room in range(len(marks))]
    onward = [shares_into(row, thing) for row in machine.shares()]
    # What is not rising, empty or out of order never comes of a parting, either.
    return thing == parted_by(list(zip(numbers, marks, onward)))
