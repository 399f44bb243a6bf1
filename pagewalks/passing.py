"""The fewest new links by which a page passes another one."""

from pagewalks.fractions import is_less
from pagewalks.links import with_link
from pagewalks.shares import shares


def choices(places, many):
    # Of rising places all choices with a lesser first place come ahead, and so on: the order of lists.
    if many == 0:
        return [[]]
    found = []
    for turn, place in enumerate(places):
        found.extend([[place] + rest for rest in choices(places[turn + 1:], many - 1)])
    return found


def linked(web, chosen, page):
    for place in chosen:
        web = with_link(web, place, page)
    return web


def is_ahead(web, leap, leaps, one, other):
    row = shares(web, leap, leaps)
    return is_less(row[other], row[one])


def least_links(web, leap, leaps, one, other, places):
    rising = sorted(places)
    for many in range(len(rising) + 1):
        for chosen in choices(rising, many):
            if is_ahead(linked(web, chosen, one), leap, leaps, one, other):
                return chosen
    return None
