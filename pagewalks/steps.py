"""Steps of a walk: the ways from a page, and the row behind a step."""

from pagewalks.fractions import ONE, aboves, less, made, plus, shared_below, times
from pagewalks.webs import leads


def way(leap, share, links, many):
    return plus(times(leap, share), times(less(ONE, leap), made(links, many)))


def ways(web, leap, leaps, page):
    ends = leads(web, page)
    if not ends:
        return leaps
    return tuple([way(leap, share, ends.count(there), len(ends)) for there, share in enumerate(leaps)])


def weighed(numbers, below, column):
    # All goes over one divisor and is brought to least numbers once: rows of some thousand figures stay quick.
    other = shared_below(column)
    return made(sum([one * two for one, two in zip(numbers, aboves(column, other))]), below * other)


def behind(web, leap, leaps, row):
    from_each = [ways(web, leap, leaps, page) for page in range(web[0])]
    below = shared_below(row)
    numbers = aboves(row, below)
    return tuple([weighed(numbers, below, [each[there] for each in from_each]) for there in range(web[0])])
