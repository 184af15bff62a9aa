"""Sheets: tests of rooms, put together row by row, that tell rooms apart."""

from neartwins.carryings import is_gap
from neartwins.errors import NoSheet
from neartwins.fractions import is_whole_within
from neartwins.machines import check_machine, is_mark
from neartwins.tables import meant_fade
from neartwins.worths import worths_of

MOST_ROWS = 1500
# What stands behind each word of a row.
FORMS = {
    "mark": ("mark",),
    "next": ("row",),
    "not": ("row",),
    "less": ("row", "cut"),
    "least": ("row", "row"),
    "most": ("row", "row"),
}


def fits(kind, number, thing):
    """Whether this, which may be anything, can stand for such a part in the row with this number."""
    if kind == "mark":
        return is_mark(thing)
    if kind == "cut":
        return is_gap(thing)
    return is_whole_within(thing, 0, number - 1)


def is_sheet_row(number, thing):
    """Whether this, which may be anything, can be the row with this number."""
    if not isinstance(thing, tuple) or len(thing) == 0 or not isinstance(thing[0], str):
        return False
    if thing[0] not in FORMS:
        return False
    kinds = FORMS[thing[0]]
    parts = thing[1:]
    return len(parts) == len(kinds) and all([fits(kind, number, part) for kind, part in zip(kinds, parts)])


def check_rows(rows):
    """Refuse what is no list of 1 to 1500 rows."""
    if not isinstance(rows, list) or not 1 <= len(rows) <= MOST_ROWS:
        raise NoSheet(None)
    for number, row in enumerate(rows):
        if not is_sheet_row(number, row):
            raise NoSheet(number)


def steps_of(rows):
    """For each row how many next stand at most one within another in it."""
    told = []
    for row in rows:
        kinds = FORMS[row[0]]
        ahead = [told[part] for kind, part in zip(kinds, row[1:]) if kind == "row"]
        deepest = max(ahead, default=0)
        told.append(deepest + 1 if row[0] == "next" else deepest)
    return told


class Sheet:
    """Rows, each of which is a test that may be made of those ahead of it; it never changes."""

    def __init__(self, rows):
        check_rows(rows)
        self.kept_rows = list(rows)

    def rows(self):
        """The rows, tuples."""
        return list(self.kept_rows)

    def worths(self, machine, fade=None):
        """For each row a list with its value in each room of a machine."""
        check_machine(machine)
        return worths_of(self.kept_rows, machine, meant_fade(fade))

    def steps(self):
        """For each row how many next stand at most one within another in it."""
        return steps_of(self.kept_rows)

    def __eq__(self, other):
        if not isinstance(other, Sheet):
            return False
        return self.kept_rows == other.kept_rows

    def __len__(self):
        return len(self.kept_rows)

    def __repr__(self):
        return f"Sheet({len(self.kept_rows)} rows)"

    def __str__(self):
        return f"Sheet({len(self.kept_rows)} rows)"
