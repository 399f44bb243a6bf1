"""Arrivals: the steps that a walk takes to a page and back, and which of two pages it comes to first."""

from pagewalks.fractions import ONE, ZERO, aboves, by, made, shared_below
from pagewalks.shares import factor, parts, shares
from pagewalks.solving import solved


def going(web, leap, page, steps):
    # A leap is an unknown of its own, the last one: so the numbers of the leaps stand in one equation alone.
    factors = [factor(web, leap, page, there) for there in range(web[0])]
    return factors + [-sum(factors), steps * leap[1] * parts(web, page)]


def leaping(leaps):
    below = shared_below(leaps)
    return [-each for each in aboves(leaps, below)] + [below, 0]


def staying(web, page, value):
    return [1 if there == page else 0 for there in range(web[0])] + [0, value]


def arrived(web, leap, leaps, ends, steps):
    # Of each page the value of its end, else the steps and the values behind its ways. At an end a walk stops, and one
    # of them has a share above 0, so it is come to from every page: that is what the solving asks for.
    equations = [staying(web, page, ends[page]) if page in ends else going(web, leap, page, steps)
                 for page in range(web[0])]
    found = solved(equations + [leaping(leaps)])
    return tuple([made(each, found[1]) for each in found[0][:web[0]]])


def steps_to(web, leap, leaps, page):
    if shares(web, leap, leaps)[page] == ZERO:
        return None
    return arrived(web, leap, leaps, {page: 0}, 1)


def steps_back(web, leap, leaps, page):
    share = shares(web, leap, leaps)[page]
    if share == ZERO:
        return None
    return by(ONE, share)


def first_to(web, leap, leaps, one, other):
    row = shares(web, leap, leaps)
    if row[one] == ZERO and row[other] == ZERO:
        return None
    return arrived(web, leap, leaps, {one: 1, other: 0}, 0)
