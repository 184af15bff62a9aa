"""Machines: rooms with marks, and the shares by which they go on to rooms."""

from neartwins.errors import NoMachine, NoRoom
from neartwins.fractions import ONE, is_fraction, is_whole_within, total
from neartwins.writing import room_row

MOST_ROOMS = 6
LONGEST_MARK = 4
GREATEST_BOTTOM = 999


def is_mark(thing):
    """Whether this, which may be anything, is a text of one to four letters from a to z."""
    if not isinstance(thing, str) or not 1 <= len(thing) <= LONGEST_MARK:
        return False
    return all(["a" <= sign <= "z" for sign in thing])


def is_share(thing):
    """Whether this, which may be anything, is a fraction from 0 to 1 of at most three figures each."""
    # The top is never above the bottom, so it has no more figures.
    return is_fraction(thing) and 0 <= thing[0] <= thing[1] <= GREATEST_BOTTOM


def are_room_shares(many, thing):
    """Whether this, which may be anything, is the shares of a room of a machine of so many rooms."""
    if not isinstance(thing, list) or len(thing) != many:
        return False
    return all([is_share(each) for each in thing]) and total(thing) == ONE


def check_marks(marks):
    """Refuse what is no list of 1 to 6 marks."""
    if not isinstance(marks, list) or not 1 <= len(marks) <= MOST_ROOMS:
        raise NoMachine("marks", None)
    for number, mark in enumerate(marks):
        if not is_mark(mark):
            raise NoMachine("marks", number)


def check_shares(many, shares):
    """Refuse what is no list of shares for each of so many rooms."""
    if not isinstance(shares, list) or len(shares) != many:
        raise NoMachine("shares", None)
    for number, row in enumerate(shares):
        if not are_room_shares(many, row):
            raise NoMachine("shares", number)


def check_machine(thing):
    """Refuse what is no Machine."""
    if not isinstance(thing, Machine):
        raise NoMachine("machine", None)


def check_machines(one, other):
    """Refuse two things of which one is no Machine."""
    check_machine(one)
    check_machine(other)


def check_room(machine, room):
    """Refuse what is no number of a room of this machine."""
    if not is_whole_within(room, 0, len(machine) - 1):
        raise NoRoom(room)


class Machine:
    """Rooms, each with a mark and with shares by which it goes on; it never changes."""

    def __init__(self, marks, shares):
        check_marks(marks)
        check_shares(len(marks), shares)
        self.kept_marks = list(marks)
        self.kept_shares = [list(row) for row in shares]

    def marks(self):
        """The mark of each room."""
        return list(self.kept_marks)

    def shares(self):
        """The shares of each room."""
        return [list(row) for row in self.kept_shares]

    def mark(self, room):
        """The mark of a room; refused with NoRoom where there is none."""
        check_room(self, room)
        return self.kept_marks[room]

    def shares_of(self, room):
        """The shares of a room; refused with NoRoom where there is none."""
        check_room(self, room)
        return list(self.kept_shares[room])

    def __eq__(self, other):
        if not isinstance(other, Machine):
            return False
        return self.kept_marks == other.kept_marks and self.kept_shares == other.kept_shares

    def __len__(self):
        return len(self.kept_marks)

    def __repr__(self):
        return f"Machine({self.kept_marks!r}, {self.kept_shares!r})"

    def __str__(self):
        return "\n".join([room_row(mark, row) for mark, row in zip(self.kept_marks, self.kept_shares)])
