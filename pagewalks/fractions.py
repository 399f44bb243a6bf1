"""Fractions: tuples (above, below) of whole numbers in least numbers, below 1 or more."""

ZERO = (0, 1)
ONE = (1, 1)


def is_whole(thing):
    # Python counts True and False among the ints; the document does not.
    return isinstance(thing, int) and not isinstance(thing, bool)


def common(one, other):
    while other != 0:
        rest = one % other
        one = other
        other = rest
    return one


def is_pair_of_wholes(thing):
    return isinstance(thing, tuple) and len(thing) == 2 and is_whole(thing[0]) and is_whole(thing[1])


def is_fraction(thing):
    # What stands within is looked at only once it is known to be whole numbers: deep things are never compared.
    return is_pair_of_wholes(thing) and thing[1] >= 1 and common(abs(thing[0]), thing[1]) == 1


def made(above, below):
    divisor = common(abs(above), abs(below))
    if below < 0:
        # The sign belongs above, so a divisor below 0 turns both.
        divisor = -divisor
    return (above // divisor, below // divisor)


def plus(one, other):
    return made(one[0] * other[1] + other[0] * one[1], one[1] * other[1])


def less(one, other):
    return made(one[0] * other[1] - other[0] * one[1], one[1] * other[1])


def times(one, other):
    return made(one[0] * other[0], one[1] * other[1])


def by(one, other):
    return made(one[0] * other[1], one[1] * other[0])


def is_less(one, other):
    return one[0] * other[1] < other[0] * one[1]


def total(some):
    whole = ZERO
    for each in some:
        whole = plus(whole, each)
    return whole


def shared_below(some):
    whole = 1
    for each in some:
        whole = whole // common(whole, each[1]) * each[1]
    return whole


def aboves(some, below):
    return [each[0] * (below // each[1]) for each in some]
