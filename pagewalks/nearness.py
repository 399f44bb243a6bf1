"""Nearness: how far rows lie apart, how many steps bring any row near, and the row behind so many steps."""

from pagewalks.fractions import ONE, aboves, less, made, shared_below
from pagewalks.steps import behind_several


def apart(one, other):
    below = shared_below(one + other)
    gaps = [abs(left - right) for left, right in zip(aboves(one, below), aboves(other, below))]
    return made(sum(gaps), below)


def is_far(part, near):
    return 2 * part[0] * near[1] > near[0] * part[1]


def together(one, other):
    # Parts of one fraction times itself are in least numbers as they are: looking for more would take long.
    return (one[0] * other[0], one[1] * other[1])


def doubled(part, near):
    # Tuples of steps, 1, 2, 4 and so on, and the part so often with itself, till it is near enough.
    found = [(1, part)]
    while is_far(found[-1][1], near):
        last = found[-1]
        found.append((last[0] * 2, together(last[1], last[1])))
    return found


def steps_enough(leap, near):
    if not is_far(ONE, near):
        return 0
    # The most steps that are not enough are put together, the greatest doubled ones first: small fractions, for which
    # many steps are needed, stay quick.
    most = 0
    part = ONE
    for steps, more in reversed(doubled(less(ONE, leap), near)):
        further = together(part, more)
        if is_far(further, near):
            most = most + steps
            part = further
    return most + 1


def walked(web, leap, leaps, row, many):
    return behind_several(web, leap, leaps, row, many)
