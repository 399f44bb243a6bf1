"""Steps of a walk: the ways from a page, and the row behind one step or several."""

from pagewalks.fractions import ONE, aboves, less, made, plus, shared_below, times
from pagewalks.webs import leads


def way(leap, share, links, many):
    return plus(times(leap, share), times(less(ONE, leap), made(links, many)))


def ways(web, leap, leaps, page):
    ends = leads(web, page)
    if not ends:
        return leaps
    return tuple([way(leap, share, ends.count(there), len(ends)) for there, share in enumerate(leaps)])


def moved(numbers, from_each):
    return [sum([number * each[there] for number, each in zip(numbers, from_each)]) for there in range(len(numbers))]


def behind_several(web, leap, leaps, row, many):
    # All goes over one divisor and is brought to least numbers once, at the end: rows of some thousand figures stay
    # quick, also over many steps.
    table = [ways(web, leap, leaps, page) for page in range(web[0])]
    step = shared_below(sum(table, start=()))
    from_each = [aboves(each, step) for each in table]
    below = shared_below(row)
    numbers = aboves(row, below)
    for turn in range(many):
        numbers = moved(numbers, from_each)
        below = below * step
    return tuple([made(each, below) for each in numbers])


def behind(web, leap, leaps, row):
    return behind_several(web, leap, leaps, row, 1)
