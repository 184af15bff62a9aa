"""Rows of marks that are seen while a machine walks: their chances, and how far they tell rooms apart."""

from neartwins.errors import NoNumber, NoRow, TooMany
from neartwins.fractions import NOUGHT, apart, is_whole_within, times, total, under
from neartwins.machines import check_machine, check_room, is_mark
from neartwins.walking import standing_in, stepped

LONGEST_ROW = 8
MOST_MARKS = 5
MOST_ROWS = 300
HALF = (1, 2)


def is_row(thing):
    """Whether this, which may be anything, is a list of 1 to 8 marks."""
    if not isinstance(thing, list) or not 1 <= len(thing) <= LONGEST_ROW:
        return False
    return all([is_mark(each) for each in thing])


def check_many(many):
    """Refuse what is no number of marks for which all rows are told."""
    if not is_whole_within(many, 1, MOST_MARKS):
        raise NoNumber("all rows are told of a whole number of marks from 1 to 5")


def only_marked(marks, mark, chances):
    """The chances of the rooms with this mark, and nought for the other ones."""
    return [each if own == mark else NOUGHT for own, each in zip(marks, chances)]


def chance(machine, room, row):
    """The chance that the marks which are seen, first this room's, are this row."""
    check_machine(machine)
    check_room(machine, room)
    if not is_row(row):
        raise NoRow("a row is a list of 1 to 8 marks")
    marks = machine.marks()
    shares = machine.shares()
    chances = only_marked(marks, row[0], standing_in(len(machine), room))
    for mark in row[1:]:
        chances = only_marked(marks, mark, stepped(shares, chances))
    return total(chances)


def longer_by_one(marks, shares, grown):
    """All rows that go on by one mark, each with the chances of the rooms at its end, of such rows sorted."""
    longer = []
    for row, chances in grown:
        behind = stepped(shares, chances)
        for mark in sorted(set(marks)):
            kept = only_marked(marks, mark, behind)
            if under(NOUGHT, total(kept)):
                longer.append((row + [mark], kept))
    return longer


def rows_from(machine, room, many):
    """All rows of so many marks with a chance above nought, sorted, each with its chance."""
    marks = machine.marks()
    shares = machine.shares()
    grown = [([marks[room]], standing_in(len(marks), room))]
    for step in range(many - 1):
        grown = longer_by_one(marks, shares, grown)
        # Each row goes on somehow, so there never are fewer longer rows than there are now.
        if len(grown) > MOST_ROWS:
            raise TooMany("there are more than 300 rows")
    return [(row, total(chances)) for row, chances in grown]


def all_rows(machine, room, many):
    """All rows of so many marks whose chance from this room is above nought, sorted, each with its chance."""
    check_machine(machine)
    check_room(machine, room)
    check_many(many)
    return rows_from(machine, room, many)


def apart_by_rows(machine, one, other, many):
    """How far rows of so many marks tell two rooms apart, and the rows to which the first gives a greater chance."""
    check_machine(machine)
    check_room(machine, one)
    check_room(machine, other)
    check_many(many)
    ones = {tuple(row): each for row, each in rows_from(machine, one, many)}
    others = {tuple(row): each for row, each in rows_from(machine, other, many)}
    rows = sorted(set(ones) | set(others))
    gaps = [apart(ones.get(row, NOUGHT), others.get(row, NOUGHT)) for row in rows]
    greater = [list(row) for row in rows if under(others.get(row, NOUGHT), ones.get(row, NOUGHT))]
    return (times(HALF, total(gaps)), greater)
