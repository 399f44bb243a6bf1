"""The shares of its steps with which a walk is at each page in the long run, and the ranking by them."""

from pagewalks.fractions import aboves, made, shared_below
from pagewalks.solving import solved
from pagewalks.steps import behind
from pagewalks.webs import are_leaps, leads


def parts(web, page):
    # A page without links is left by the leaps as a whole, as if it had one link out of the web.
    return max(1, len(leads(web, page)))


def factor(web, leap, here, there):
    along = (leap[1] - leap[0]) * web[1].count((here, there))
    if here == there:
        return leap[1] * parts(web, here) - along
    return -along


def equation(web, leap, page, start):
    return [factor(web, leap, here, page) for here in range(web[0])] + [start]


def visits(web, leap, leaps):
    # Between two leaps a walk begins by the leaps and goes along links alone. How often it is then at each page is
    # told by equations that need no leap back, and it is in proportion to the shares, for each leap begins afresh.
    # The unknown of a page is its visits by the parts in which they go on, so that all is in whole numbers.
    starts = aboves(leaps, shared_below(leaps))
    found = solved([equation(web, leap, page, start) for page, start in enumerate(starts)])
    return [parts(web, page) * number for page, number in enumerate(found[0])]


def shares(web, leap, leaps):
    numbers = visits(web, leap, leaps)
    return tuple([made(each, sum(numbers)) for each in numbers])


def are_shares(web, leap, leaps, thing):
    # Shares have the form of leaps: fractions, one for each page, none below 0, together 1.
    return are_leaps(web, thing) and behind(web, leap, leaps, thing) == thing


def ranked(web, leap, leaps):
    row = shares(web, leap, leaps)
    numbers = aboves(row, shared_below(row))
    # Sorting keeps the order of like ones, so the lesser page stays ahead.
    return sorted(range(web[0]), key=lambda page: -numbers[page])
