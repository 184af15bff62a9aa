"""The cheapest carrying of shares onto shares by a table, with prices that earn as much as it costs."""

from neartwins.carryings import are_prices, are_shares, cost, earned, has_corners, is_carrying, is_table
from neartwins.errors import NoShares, NoTable
from neartwins.flows import cheapest_flow, flow_cost, flow_prices
from neartwins.fractions import common, is_fraction, reduced


def check_table(many, table):
    """Refuse what is no table with corners for so many places."""
    if not is_table(many, table) or not has_corners(table):
        raise NoTable("a table with corners is wanted, for as many places")


def whole_table(table):
    """The tops of a table that is brought to one bottom, and that bottom."""
    tops, bottom = common([gap for row in table for gap in row])
    many = len(table)
    return [tops[place * many:place * many + many] for place in range(many)], bottom


def whole_shares(ones, others):
    """The tops of two lists of shares that are brought to one bottom, and that bottom."""
    tops, bottom = common(ones + others)
    return tops[:len(ones)], tops[len(ones):], bottom


def cheapest_by(ones, others, table):
    """What cheapest tells, of shares and of a table with corners."""
    givings, takings, whole = whole_shares(ones, others)
    gaps, bottom = whole_table(table)
    flow = cheapest_flow(givings, takings, gaps)
    carrying = [[reduced(carried, whole) for carried in row] for row in flow]
    prices = [reduced(price, bottom) for price in flow_prices(givings, takings, gaps, flow)]
    return (reduced(flow_cost(flow, gaps), whole * bottom), carrying, prices)


def cheapest(ones, others, table):
    """What the cheapest carrying costs, such a carrying, and prices from (0, 1) to (1, 1) that earn so."""
    if not are_shares(ones) or not are_shares(others) or len(ones) != len(others):
        raise NoShares("shares are fractions from nought on, together one, as many on either side")
    check_table(len(ones), table)
    return cheapest_by(ones, others, table)


def lets_cheapest(ones, others, table, thing):
    """Whether this, which may be anything, is a tuple of a cost, a carrying that costs so, and prices that earn so."""
    if not isinstance(thing, tuple) or len(thing) != 3:
        return False
    told, carrying, prices = thing
    if not is_fraction(told) or not is_carrying(ones, others, carrying) or not are_prices(table, prices):
        return False
    return cost(table, carrying) == told and earned(ones, others, prices) == told
