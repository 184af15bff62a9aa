"""The cheapest carrying in whole numbers, and the prices that show that none is cheaper.

A giver has more than it must have, a taker less. What can stay in its place does: nothing is cheaper than this where
the gaps between places have corners, and prices are told for such gaps only.
"""


def givers_of(ones, others):
    """The places that have more than they must have."""
    return [place for place, (one, other) in enumerate(zip(ones, others)) if one > other]


def open_steps(givers, takers, carrying, gaps):
    """All steps, with their costs, by which more can be carried: forth anywhere, back where something was carried."""
    crossings = [(giver, taker) for giver in givers for taker in takers]
    forth = [(giver, taker, gaps[giver][taker]) for giver, taker in crossings]
    back = [(taker, giver, -gaps[giver][taker]) for giver, taker in crossings if carrying[giver][taker] > 0]
    return forth + back


def cheapest_ways(starts, steps):
    """For each place that can be come to, (cost, how many steps) of the cheapest way there, and the place ahead of it.

    Of equally cheap ways the one of the fewest steps is taken: so the rounds stay few, whatever the amounts are.
    """
    reach = {start: (0, 0) for start in starts}
    ahead = {}
    bettered = True
    while bettered:
        bettered = False
        for start, end, gap in steps:
            if start in reach:
                way = (reach[start][0] + gap, reach[start][1] + 1)
                if end not in reach or way < reach[end]:
                    reach[end] = way
                    ahead[end] = start
                    bettered = True
    return reach, ahead


def way_to(end, ahead):
    """The places of the way to this end, from its start on."""
    way = [end]
    while way[-1] in ahead:
        way.append(ahead[way[-1]])
    return way[::-1]


def carry_along(way, carrying, left):
    """Carry as much as can be along a way, which goes forth and back by turns."""
    steps = list(zip(way, way[1:]))
    much = min([left[way[0]], -left[way[-1]]] + [carrying[giver][taker] for taker, giver in steps[1::2]])
    for giver, taker in steps[0::2]:
        carrying[giver][taker] += much
    for taker, giver in steps[1::2]:
        carrying[giver][taker] -= much
    left[way[0]] -= much
    left[way[-1]] += much


def cheapest_flow(ones, others, gaps):
    """The cheapest carrying of ones onto others, whole numbers from 0 on of the same sum, that lets stay what can."""
    places = list(range(len(ones)))
    stays = [min(one, other) for one, other in zip(ones, others)]
    carrying = [[stays[place] if to == place else 0 for to in places] for place in places]
    left = [one - other for one, other in zip(ones, others)]
    givers = givers_of(ones, others)
    takers = givers_of(others, ones)
    while any([left[giver] > 0 for giver in givers]):
        starts = [giver for giver in givers if left[giver] > 0]
        reach, ahead = cheapest_ways(starts, open_steps(givers, takers, carrying, gaps))
        end = min([(reach[taker], taker) for taker in takers if left[taker] < 0])[1]
        carry_along(way_to(end, ahead), carrying, left)
    return carrying


def flow_cost(carrying, gaps):
    """What a carrying costs, in whole numbers."""
    return sum([gap * carried for row, across in zip(gaps, carrying) for gap, carried in zip(row, across)])


def flow_prices(ones, others, gaps, carrying):
    """Prices, whole numbers of which the least is 0, that earn what this cheapest carrying costs."""
    givers = givers_of(ones, others)
    takers = givers_of(others, ones)
    if takers == []:
        return [0 for one in ones]
    reach = cheapest_ways(givers, open_steps(givers, takers, carrying, gaps))[0]
    # No place may be priced higher than its gap above any taker; givers come just to what carries their own.
    prices = [min([row[taker] - reach[taker][0] for taker in takers]) for row in gaps]
    least = min(prices)
    return [price - least for price in prices]
