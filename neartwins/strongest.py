"""The strongest tests: sheets whose last row parts two rooms by just what the table by so many steps has.

Rooms with like marks are apart, by so many steps, by the fade times what prices for the table ahead earn. So a row
whose values are these prices parts them by just that a step ahead. It is made of the strongest rows by one step fewer:
of each two rooms the row is cut and lifted until it has both their prices there; the least of a room's rows then has
its price there, and no other room's value is above its own; so the most of all these has all prices.
"""

from neartwins.cheapest import cheapest_by
from neartwins.errors import NoNumber, TooMany
from neartwins.fractions import NOUGHT, ONE, is_whole_within, minus, times, total, under
from neartwins.machines import check_machine, check_room
from neartwins.sheets import Sheet
from neartwins.tables import meant_fade, tables_by

MOST_PARTED_ROOMS = 4
MOST_PARTED_STEPS = 4


class Draft:
    """The rows of a sheet that is being written, and the number of each."""

    def __init__(self):
        self.written = []
        self.places = {}

    def put(self, row):
        """The number of a row, which is written where it doesn't stand yet."""
        if row not in self.places:
            self.places[row] = len(self.written)
            self.written.append(row)
        return self.places[row]


def turned(draft, number):
    """The number of the row that has what is lacking from this one to one."""
    return draft.put(("not", number))


def cut_down(draft, number, cut):
    """The number of a row that has less by a cut than this one, nought where that is below it."""
    if cut == NOUGHT:
        return number
    return draft.put(("less", number, cut))


def lifted(draft, number, much):
    """The number of a row that has so much more than this one, one where that is above it."""
    if much == NOUGHT:
        return number
    return turned(draft, cut_down(draft, turned(draft, number), much))


def folded(draft, word, numbers):
    """The number of a row that has the least, or the most, of these rows."""
    number = numbers[0]
    for each in numbers[1:]:
        if each != number:
            number = draft.put((word, number, each))
    return number


def fitted(draft, row, pair, prices):
    """The number of a row with the prices of two rooms there, of a row that parts these no less than the prices do."""
    number, values = row
    low, high = pair
    if under(prices[high], prices[low]):
        low, high = high, low
    value = values[high]
    if under(value, values[low]):
        number = turned(draft, number)
        value = minus(ONE, value)
    rise = minus(prices[high], prices[low])
    # Cut so, the row has just the rise where the price is higher, and nought where it is lower.
    return lifted(draft, cut_down(draft, number, minus(value, rise)), prices[low])


def priced(draft, ahead, prices):
    """The number of a row whose values are these prices, of the strongest rows for each two rooms."""
    rooms = list(range(len(prices)))
    numbers = {pair: fitted(draft, ahead[pair], pair, prices) for pair in ahead}
    lows = [folded(draft, "least", [numbers[pair] for pair in numbers if room in pair]) for room in rooms]
    return folded(draft, "most", lows)


def marking(draft, machine, room):
    """The number and the values of the row that looks for the mark of a room."""
    mark = machine.mark(room)
    return draft.put(("mark", mark)), [ONE if own == mark else NOUGHT for own in machine.marks()]


def stepping(draft, machine, fade, number, prices):
    """The number and the values of the row a step ahead of one with these values."""
    values = [
        times(fade, total([times(share, price) for share, price in zip(row, prices)])) for row in machine.shares()
    ]
    return draft.put(("next", number)), values


def strongest_row(draft, machine, fade, ahead, pair, tables):
    """The number and the values of the strongest row for two rooms, by a table and the one ahead of it."""
    one, other = pair
    former, table = tables
    # Unlike marks are parted by one, and nothing needs to be parted by nought.
    if machine.mark(one) != machine.mark(other) or table[one][other] == NOUGHT:
        return marking(draft, machine, one)
    prices = cheapest_by(machine.shares_of(one), machine.shares_of(other), former)[2]
    return stepping(draft, machine, fade, priced(draft, ahead, prices), prices)


def room_pairs(machine):
    """All two rooms (one, other), one below other."""
    rooms = list(range(len(machine)))
    return [(one, other) for one in rooms for other in rooms if one < other]


def strongest(machine, one, other, steps, fade=None):
    """A sheet whose last row, of fewer steps than so many, parts two rooms as the table by so many steps has them."""
    check_machine(machine)
    if len(machine) > MOST_PARTED_ROOMS:
        raise TooMany("the strongest tests are told of at most 4 rooms")
    check_room(machine, one)
    check_room(machine, other)
    if not is_whole_within(steps, 1, MOST_PARTED_STEPS):
        raise NoNumber("steps are a whole number from 1 to 4")
    meant = meant_fade(fade)
    tables = tables_by(machine, steps, meant)
    draft = Draft()
    ahead = {}
    for former, table in zip(tables[:-2], tables[1:-1]):
        ahead = {
            pair: strongest_row(draft, machine, meant, ahead, pair, (former, table)) for pair in room_pairs(machine)
        }
    last = strongest_row(draft, machine, meant, ahead, (one, other), (tables[-2], tables[-1]))[0]
    # The row may have been written for fewer steps already; then what stands behind it is of no use.
    return Sheet(draft.written[:last + 1])
