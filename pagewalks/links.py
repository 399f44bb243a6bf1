"""How shares hang on links: a link once more, once less, and what it brings."""

from pagewalks.fractions import less
from pagewalks.shares import shares


def with_link(web, one, other):
    return (web[0], tuple(sorted(web[1] + ((one, other),))))


def without_link(web, one, other):
    links = web[1]
    if (one, other) not in links:
        return None
    place = links.index((one, other))
    return (web[0], links[:place] + links[place + 1:])


def turned(web, leap, leaps, one, other):
    before = shares(web, leap, leaps)
    after = shares(with_link(web, one, other), leap, leaps)
    return tuple([less(new, old) for new, old in zip(after, before)])


def gains(web, leap, leaps, page):
    return tuple([turned(web, leap, leaps, here, page)[page] for here in range(web[0])])
