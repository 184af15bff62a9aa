"""Papers that show the distances from above and from below: whether something, whoever wrote it, is one."""

from neartwins.carryings import are_prices, cost, earned, is_carrying, is_table
from neartwins.fractions import ONE, is_whole, times, under
from neartwins.machines import check_machine
from neartwins.tables import like_pairs, meant_fade


def is_entry(pair, thing):
    """Whether this, which may be anything, is a tuple of the two rooms of a pair and of something else."""
    if not isinstance(thing, tuple) or len(thing) != 3:
        return False
    one, other = thing[:2]
    return is_whole(one) and is_whole(other) and (one, other) == pair


def is_paper(marks, thing):
    """Whether this, which may be anything, has the form of a paper: a table, and a list of an entry for each pair."""
    if not isinstance(thing, tuple) or len(thing) != 2:
        return False
    table, entries = thing
    pairs = like_pairs(marks)
    if not is_table(len(marks), table) or not isinstance(entries, list) or len(entries) != len(pairs):
        return False
    return all([is_entry(pair, entry) for pair, entry in zip(pairs, entries)])


def parts_unlike(marks, table):
    """Whether a table has (1, 1) wherever marks are unlike."""
    rooms = list(range(len(marks)))
    return all([table[one][other] == ONE for one in rooms for other in rooms if marks[one] != marks[other]])


def holds_above(shares, table, fade, entry):
    """Whether an entry has a carrying whose cost, times fade, is no more than the table has."""
    one, other, carrying = entry
    if not is_carrying(shares[one], shares[other], carrying):
        return False
    return not under(table[one][other], times(fade, cost(table, carrying)))


def holds_below(shares, table, fade, entry):
    """Whether an entry has prices that earn, one way or the other, times fade, no less than the table has."""
    one, other, prices = entry
    if not are_prices(table, prices):
        return False
    forth = times(fade, earned(shares[one], shares[other], prices))
    back = times(fade, earned(shares[other], shares[one], prices))
    return not under(forth, table[one][other]) or not under(back, table[one][other])


def lets_above(machine, thing, fade=None):
    """Whether this, which may be anything, is a paper from above: so no distance is greater than its table has it."""
    check_machine(machine)
    meant = meant_fade(fade)
    marks = machine.marks()
    if not is_paper(marks, thing):
        return False
    table, carryings = thing
    shares = machine.shares()
    return parts_unlike(marks, table) and all([holds_above(shares, table, meant, entry) for entry in carryings])


def lets_below(machine, thing, fade=None):
    """Whether this, which may be anything, is a paper from below: so no distance is less than its table has it."""
    check_machine(machine)
    meant = meant_fade(fade)
    if not is_paper(machine.marks(), thing):
        return False
    table, prices = thing
    shares = machine.shares()
    return all([holds_below(shares, table, meant, entry) for entry in prices])
