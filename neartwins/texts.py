"""Machines written as texts, and read from them."""

from neartwins.errors import NoText
from neartwins.machines import MOST_ROOMS, Machine, are_room_shares, check_machine, is_mark
from neartwins.reading import parts_read, shares_written


def shown(machine):
    """The text of a machine."""
    check_machine(machine)
    return str(machine)


def room_of(many, row):
    """The mark and the shares of a room that a row writes, in a machine of so many rooms; None where it writes none."""
    words = row.split(" ")
    parts = parts_read(words[1:])
    if not is_mark(words[0]) or parts is None:
        return None
    shares = shares_written(many, parts)
    return (words[0], shares) if are_room_shares(many, shares) else None


def read(text):
    """The machine that a text, which may be anything, writes; refused with NoText where it writes none."""
    if not isinstance(text, str):
        raise NoText(0)
    rows = text.split("\n")
    if len(rows) > MOST_ROOMS:
        raise NoText(MOST_ROOMS)
    rooms = []
    for number, row in enumerate(rows):
        room = room_of(len(rows), row)
        if room is None:
            raise NoText(number)
        rooms.append(room)
    return Machine([mark for mark, shares in rooms], [shares for mark, shares in rooms])
