"""Exact fractions: tuples (top, bottom) in their lowest terms, the bottom from 1 on."""

from neartwins.errors import NoDivisor, NoNumber

NOUGHT = (0, 1)
ONE = (1, 1)


def is_whole(thing):
    """Whether this, which may be anything, is an int that is no truth."""
    return isinstance(thing, int) and not isinstance(thing, bool)


def is_whole_within(thing, least, most):
    """Whether this, which may be anything, is a whole number from least to most."""
    return is_whole(thing) and least <= thing <= most


def greatest_divisor(one, other):
    """The greatest number that divides both; 0 only where both are 0."""
    while other != 0:
        one, other = other, one % other
    return abs(one)


def is_fraction(thing):
    """Whether this, which may be anything, is a fraction."""
    if not isinstance(thing, tuple) or len(thing) != 2:
        return False
    top, bottom = thing
    if not is_whole(top) or not is_whole(bottom) or bottom < 1:
        return False
    return greatest_divisor(top, bottom) == 1


def reduced(top, bottom):
    """The fraction of two whole numbers, of which the second is not 0."""
    divisor = greatest_divisor(top, bottom)
    # Dividing by a number below nought turns both signs, so that the bottom ends above nought.
    if bottom < 0:
        divisor = -divisor
    return (top // divisor, bottom // divisor)


def fraction(top, bottom=1):
    """The fraction of two things of any kind; refused with NoNumber where they make none."""
    if not is_whole(top) or not is_whole(bottom) or bottom == 0:
        raise NoNumber("a fraction is made of two whole numbers, the second not 0")
    return reduced(top, bottom)


def plus(one, other):
    """The sum of two fractions."""
    return reduced(one[0] * other[1] + other[0] * one[1], one[1] * other[1])


def minus(one, other):
    """The first fraction less the second."""
    return reduced(one[0] * other[1] - other[0] * one[1], one[1] * other[1])


def times(one, other):
    """The product of two fractions."""
    return reduced(one[0] * other[0], one[1] * other[1])


def over(one, other):
    """The first fraction divided by the second; refused with NoDivisor where that is nought."""
    if other[0] == 0:
        raise NoDivisor("nothing is divided by nought")
    return reduced(one[0] * other[1], one[1] * other[0])


def under(one, other):
    """Whether the first fraction is less than the second."""
    return one[0] * other[1] < other[0] * one[1]


def apart(one, other):
    """How far two fractions are apart: the greater less the lesser."""
    if under(one, other):
        return minus(other, one)
    return minus(one, other)


def common(some):
    """The tops of a list of fractions that are brought to one bottom, the least they have together, and that bottom."""
    bottom = 1
    for each in some:
        bottom = bottom * (each[1] // greatest_divisor(bottom, each[1]))
    return [each[0] * (bottom // each[1]) for each in some], bottom


def total(some, start=None):
    """The sum of a list of fractions and of start, nought where that is None."""
    # To reduce once at the end is far quicker than to reduce each sum on the way.
    tops, bottom = common(list(some) if start is None else [start] + list(some))
    return reduced(sum(tops), bottom)
