"""Fractions whose bottoms grow great, but mostly of a few known primes.

Such a fraction is a tuple (top, bottom, powers, rest): in lowest terms, with how often each of the known primes stands
in its bottom, and what else does. So two bottoms are brought to one, and fractions to lowest terms, by dividing by the
primes alone; to look for whatever may divide two numbers of thousands of figures takes far longer.
"""

from neartwins.fractions import greatest_divisor


def divided_out(number, prime):
    """How often a prime divides a number that is not 0, and what is left of it then."""
    often = 0
    while number % prime == 0:
        number //= prime
        often += 1
    return often, number


def primes_within(number, most):
    """The primes up to so much that divide a number."""
    found = []
    for each in range(2, most + 1):
        if number % each == 0:
            found.append(each)
            # What is left has no part of it any more, so only primes are ever found.
            number = divided_out(number, each)[1]
    return found


def grown(primes, fraction):
    """The grown form of a fraction."""
    rest = fraction[1]
    powers = []
    for prime in primes:
        often, rest = divided_out(rest, prime)
        powers.append(often)
    return (fraction[0], fraction[1], powers, rest)


def raised(number, often):
    """A number to such a power, by squaring: the power may be in the thousands."""
    product = 1
    while often > 0:
        if often & 1:
            product *= number
        number *= number
        often //= 2
    return product


def common_rest(some):
    """The least number that each of the rests of some fractions divides."""
    rest = 1
    for each in some:
        rest *= each[3] // greatest_divisor(rest, each[3])
    return rest


def factor_to(primes, powers, rest, one):
    """What brings the bottom of a fraction to such powers and such a rest."""
    factor = rest // one[3]
    for prime, power, own in zip(primes, powers, one[2]):
        if power > own:
            factor *= raised(prime, power - own)
    return factor


def levelled(primes, some):
    """The tops of one or more fractions that are brought to one bottom, that bottom, its powers and its rest."""
    columns = [each[2] for each in some]
    powers = [max(column) for column in zip(*columns)]
    rest = common_rest(some)
    factors = [factor_to(primes, powers, rest, each) for each in some]
    tops = [each[0] * factor for each, factor in zip(some, factors)]
    return tops, some[0][1] * factors[0], powers, rest


def lowered(primes, top, bottom, powers, rest):
    """The fraction of a top and of such a bottom, in lowest terms."""
    if top == 0:
        return (0, 1, [0 for prime in primes], 1)
    left = []
    for prime, power in zip(primes, powers):
        while power > 0 and top % prime == 0:
            top //= prime
            bottom //= prime
            power -= 1
        left.append(power)
    shared = greatest_divisor(top, rest)
    while shared > 1:
        top //= shared
        bottom //= shared
        rest //= shared
        shared = greatest_divisor(top, rest)
    return (top, bottom, left, rest)
