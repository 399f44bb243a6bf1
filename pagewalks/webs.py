"""Webs of pages (pages, links), leaps, and where links lead."""

from pagewalks.fractions import ONE, is_fraction, is_pair_of_wholes, is_whole, made, total

MOST_PAGES = 12
MOST_LINKS = 60


def is_link(pages, thing):
    return is_pair_of_wholes(thing) and 0 <= thing[0] < pages and 0 <= thing[1] < pages


def are_rising(links):
    return all([one <= other for one, other in zip(links, links[1:])])


def are_links(pages, thing):
    if not isinstance(thing, tuple) or len(thing) > MOST_LINKS:
        return False
    # The order is asked for last: comparing things that are no links may fail, or go too deep.
    return all([is_link(pages, each) for each in thing]) and are_rising(thing)


def is_web(thing):
    if not isinstance(thing, tuple) or len(thing) != 2:
        return False
    pages = thing[0]
    return is_whole(pages) and 1 <= pages <= MOST_PAGES and are_links(pages, thing[1])


def leads(web, page):
    # Links rise, so their ends rise too among those of one page; so it is with comes.
    return [there for here, there in web[1] if here == page]


def comes(web, page):
    return [here for here, there in web[1] if there == page]


def is_leap(thing):
    return is_fraction(thing) and 0 < thing[0] <= thing[1]


def is_share(thing):
    return is_fraction(thing) and thing[0] >= 0


def are_leaps(web, thing):
    if not isinstance(thing, tuple) or len(thing) != web[0]:
        return False
    return all([is_share(each) for each in thing]) and total(thing) == ONE


def even(web):
    return (made(1, web[0]),) * web[0]
