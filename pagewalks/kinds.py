"""Leaps by kinds of pages, leaps mixed, and the shares for each kind."""

from pagewalks.errors import NoKind
from pagewalks.fractions import ZERO, made, times, total
from pagewalks.shares import shares


def leaps_of(kinds, letter):
    # The length is asked for as well: the empty text and longer pieces stand within a text too.
    if not isinstance(letter, str) or len(letter) != 1 or letter not in kinds:
        raise NoKind("no page is of this kind")
    share = made(1, kinds.count(letter))
    return tuple([share if each == letter else ZERO for each in kinds])


def mixed(some):
    pages = len(some[0][1])
    return tuple([total([times(part, leaps[page]) for part, leaps in some]) for page in range(pages)])


def by_kinds(web, leap, kinds):
    return [(letter, shares(web, leap, leaps_of(kinds, letter))) for letter in sorted(set(kinds))]
