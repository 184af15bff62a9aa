"""The table that is its own next one, found from above.

A carrying is chosen for each two rooms with like marks. The gaps that come of these, if nothing is ever carried
otherwise, solve a set of equations; by these gaps the cheapest carryings are chosen anew. No gap ever grows, and until
nothing changes one shrinks each time, so that no choice comes twice; there are only so many, since what is carried
stays a whole number of parts. Where nothing changes any more each carrying is the cheapest by the very gaps it makes.

Gaps on the way may have no corners. By such ones a flow is the cheapest only among those that let stay what can stay;
but just one table is its own next one by these, too, and the distances, which have corners, are such a table.
"""

from neartwins.cheapest import whole_shares
from neartwins.flows import cheapest_flow, flow_cost
from neartwins.fractions import common, reduced
from neartwins.tables import like_pairs


def equation(pairs, pair, carrying, whole, fade):
    """What the gap of a pair is by its carrying: a factor for each pair's gap, and last what all come to."""
    factors = {each: 0 for each in pairs}
    factors[pair] = fade[1] * whole
    unlike = 0
    for one, row in enumerate(carrying):
        for other, carried in enumerate(row):
            between = (min(one, other), max(one, other))
            if between in factors:
                factors[between] -= fade[0] * carried
            elif one != other:
                unlike += fade[0] * carried
    return [factors[each] for each in pairs] + [unlike]


def cleared(row, own, pivot, divisor):
    """This row without its factor number own, by means of the pivot row."""
    return [(pivot[own] * factor - row[own] * over) // divisor for factor, over in zip(row, pivot)]


def solution(equations):
    """The fractions that solve as many equations, where in each its own factor outweighs all other ones.

    So no factor on the way is nought; and by Bareiss's order of steps each division comes out even.
    """
    rows = equations
    divisor = 1
    for own in range(len(equations)):
        pivot = rows[own]
        rows = [row if at == own else cleared(row, own, pivot, divisor) for at, row in enumerate(rows)]
        divisor = pivot[own]
    return [reduced(row[-1], divisor) for row in rows]


def squared(many, pairs, gaps, unlike):
    """Rows with these gaps between pairs, and with what unlike rooms have between all other rooms."""
    rows = [[0 if one == other else unlike for other in range(many)] for one in range(many)]
    for (one, other), gap in zip(pairs, gaps):
        rows[one][other] = gap
        rows[other][one] = gap
    return rows


def solved(machine, fade):
    """The table of distances of a machine by a fade."""
    many = len(machine)
    shares = machine.shares()
    pairs = like_pairs(machine.marks())
    parted = [whole_shares(shares[one], shares[other]) for one, other in pairs]
    gaps = squared(many, pairs, [1 for pair in pairs], 1)
    bottom = 1
    while True:
        flows = [cheapest_flow(ones, others, gaps) for ones, others, whole in parted]
        costs = [fade[0] * flow_cost(flow, gaps) for flow in flows]
        wholes = [fade[1] * whole for ones, others, whole in parted]
        if costs == [gaps[one][other] * whole for (one, other), whole in zip(pairs, wholes)]:
            return [[reduced(gap, bottom) for gap in row] for row in gaps]
        equations = [
            equation(pairs, pair, flow, parts[2], fade) for pair, flow, parts in zip(pairs, flows, parted)
        ]
        tops, bottom = common(solution(equations))
        gaps = squared(many, pairs, tops, bottom)
