"""Carryings of shares onto shares, what they cost by a table, and prices that earn."""

from neartwins.fractions import NOUGHT, ONE, apart, is_fraction, minus, plus, times, total, under

MOST_PLACES = 6


def is_amount(thing):
    """Whether this, which may be anything, is a fraction from (0, 1) on."""
    return is_fraction(thing) and thing[0] >= 0


def is_gap(thing):
    """Whether this, which may be anything, is a fraction from (0, 1) to (1, 1)."""
    return is_amount(thing) and thing[0] <= thing[1]


def are_shares(thing):
    """Whether this, which may be anything, is a list of 1 to 6 fractions from (0, 1) on, together (1, 1)."""
    if not isinstance(thing, list) or not 1 <= len(thing) <= MOST_PLACES:
        return False
    return all([is_amount(each) for each in thing]) and total(thing) == ONE


def is_square(many, thing):
    """Whether this, which may be anything, is a list of so many lists of so many things each."""
    if not isinstance(thing, list) or len(thing) != many:
        return False
    return all([isinstance(row, list) and len(row) == many for row in thing])


def is_table(many, thing):
    """Whether this, which may be anything, is a table for so many places."""
    if not is_square(many, thing) or not all([is_gap(each) for row in thing for each in row]):
        return False
    places = list(range(many))
    if not all([thing[place][place] == NOUGHT for place in places]):
        return False
    return all([thing[one][other] == thing[other][one] for one in places for other in places])


def has_corners(table):
    """Whether no fraction of this table is greater than two by way of a third place."""
    places = list(range(len(table)))
    return not any([
        under(plus(table[one][third], table[third][other]), table[one][other])
        for one in places for other in places for third in places
    ])


def is_carrying(ones, others, thing):
    """Whether this, which may be anything, is a carrying of ones onto others."""
    if not is_square(len(ones), thing) or not all([is_amount(each) for row in thing for each in row]):
        return False
    taken = [total(row) for row in thing]
    brought = [total([row[place] for row in thing]) for place in range(len(ones))]
    return taken == ones and brought == others


def cost(table, carrying):
    """What a carrying costs by this table."""
    return total([
        times(gap, carried) for gaps, row in zip(table, carrying) for gap, carried in zip(gaps, row)
    ])


def are_prices(table, thing):
    """Whether this, which may be anything, is prices for this table."""
    if not isinstance(thing, list) or len(thing) != len(table):
        return False
    if not all([is_fraction(each) for each in thing]):
        return False
    places = list(range(len(table)))
    return not any([
        under(table[one][other], apart(thing[one], thing[other])) for one in places for other in places
    ])


def earned(ones, others, prices):
    """What prices earn of ones and others."""
    return total([times(price, minus(one, other)) for one, other, price in zip(ones, others, prices)])
