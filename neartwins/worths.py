"""What the rows of a sheet are worth in each room of a machine, in fractions of their grown form."""

from neartwins.fractions import NOUGHT, ONE, common, under
from neartwins.grown import grown, levelled, lowered, primes_within
from neartwins.machines import GREATEST_BOTTOM


def marked(primes, marks, mark):
    """The values of a row that looks for a mark."""
    return [grown(primes, ONE if own == mark else NOUGHT) for own in marks]


def onward_in(primes, fade, shares, values):
    """What the values are worth a step ahead, in a room with these shares."""
    weights, whole = common(shares)
    goes = [room for room, weight in enumerate(weights) if weight > 0]
    tops, bottom, powers, rest = levelled(primes, [values[room] for room in goes])
    top = sum([weights[room] * each for room, each in zip(goes, tops)])
    # One over what the bottom is multiplied by, so that its primes are known.
    step = grown(primes, (1, fade[1] * whole))
    more = [power + each for power, each in zip(powers, step[2])]
    return lowered(primes, fade[0] * top, bottom * step[1], more, rest)


def lacking(value):
    """What is lacking from a value to one."""
    return (value[1] - value[0],) + value[1:]


def lessened(primes, value, cut):
    """A value less a cut, or nought where that is below it."""
    tops, bottom, powers, rest = levelled(primes, [value, cut])
    return lowered(primes, max(tops[0] - tops[1], 0), bottom, powers, rest)


def lesser(one, other):
    """The lesser one of two values."""
    return one if under(one[:2], other[:2]) else other


def greater(one, other):
    """The greater one of two values."""
    return other if under(one[:2], other[:2]) else one


def behind_row(primes, row, told):
    """The values of a row that is made of values told ahead, room by room."""
    values = told[row[1]]
    if row[0] == "not":
        return [lacking(value) for value in values]
    if row[0] == "less":
        cut = grown(primes, row[2])
        return [lessened(primes, value, cut) for value in values]
    pick = lesser if row[0] == "least" else greater
    return [pick(one, other) for one, other in zip(values, told[row[2]])]


def worths_of(rows, machine, fade):
    """For each row of a sheet a list with its value in each room."""
    marks = machine.marks()
    shares = machine.shares()
    primes = primes_within(common([fade] + [share for each in shares for share in each])[1], GREATEST_BOTTOM)
    told = []
    for row in rows:
        if row[0] == "mark":
            told.append(marked(primes, marks, row[1]))
        elif row[0] == "next":
            told.append([onward_in(primes, fade, each, told[row[1]]) for each in shares])
        else:
            told.append(behind_row(primes, row, told))
    return [[value[:2] for value in values] for values in told]
