"""Webs, leaps and rows to ask of, and what is told of them reckoned in another way, with Python's own fractions."""

import itertools
import random
from fractions import Fraction

FULL = (12, tuple(sorted([(one, (one * 5 + turn * turn) % 12) for one in range(12) for turn in range(5)])))
CROWDED = (12, tuple(itertools.islice(itertools.product(range(12), range(12)), 60)))
WEBS = {
    "one page": (1, ()),
    "one page to itself": (1, ((0, 0),)),
    "one page sixty times to itself": (1, ((0, 0),) * 60),
    "no links": (4, ()),
    "twelve without links": (12, ()),
    "one link": (2, ((0, 1),)),
    "ring": (5, ((0, 1), (1, 2), (2, 3), (3, 4), (4, 0))),
    "all to one": (4, ((0, 2), (1, 2), (2, 2), (3, 2))),
    "all to one without links": (4, ((0, 2), (1, 2), (3, 2))),
    "alike and to itself": (3, ((0, 0), (0, 1), (0, 1), (0, 1), (2, 1), (2, 2))),
    "two apart": (4, ((0, 1), (1, 0), (2, 3), (3, 2))),
    "twelve with sixty links": FULL,
    "twelve, five of them with twelve links": CROWDED,
}
SHARES_OF_LEAP = [(1, 1), (1, 2), (3, 20), (1, 10 ** 12 - 1), (999999999988, 999999999989), (123456789011, 999999999989)]
PRIMES = (999999999989, 999999999961, 999999999937)


def fraction(number):
    return (number.numerator, number.denominator)


def fractions(row):
    return tuple([fraction(Fraction(each)) for each in row])


def numbers(row):
    return [Fraction(above, below) for above, below in row]


def long_leaps(pages):
    """Leaps put together of fractions with numbers of twelve figures."""
    some = [Fraction(10 ** 11 + place, prime) for place, prime in enumerate(PRIMES[:pages - 1])]
    some.append(1 - sum(some))
    return fractions([Fraction(0)] * (pages - len(some)) + some)


def rising_leaps(pages):
    return fractions([Fraction(page + 1, pages * (pages + 1) // 2) for page in range(pages)])


def all_leaps(pages):
    alone = [fractions([int(page == chosen) for page in range(pages)]) for chosen in sorted({0, pages - 1})]
    return [fractions([Fraction(1, pages)] * pages), rising_leaps(pages), long_leaps(pages)] + alone


def samples():
    """(name, web, leap, leaps) of every sort."""
    return [(f"{name}, leap {leap}, leaps {place}", web, leap, leaps)
            for name, web in WEBS.items()
            for leap in SHARES_OF_LEAP
            for place, leaps in enumerate(all_leaps(web[0]))]


def drawn(many, seed):
    """The same webs, leaps and so on at each run, drawn by a seed."""
    source = random.Random(seed)
    for turn in range(many):
        pages = source.randint(1, 7)
        ends = range(source.randint(1, pages))
        links = [(source.choice(ends), source.randrange(pages)) for _ in range(source.randint(0, 14))]
        weights = [source.choice([0, 0, 1, 2, 5, 9]) for _ in range(pages - 1)] + [source.randint(1, 9)]
        source.shuffle(weights)
        leap = Fraction(source.randint(1, 12), 12)
        yield turn, (pages, tuple(sorted(links))), fraction(leap), fractions([Fraction(each, sum(weights))
                                                                            for each in weights])


def reckoned_ways(web, leap, leaps, page):
    going = [there for here, there in web[1] if here == page]
    if not going:
        return numbers(leaps)
    share = Fraction(*leap)
    row = [share * each for each in numbers(leaps)]
    for there in going:
        row[there] += (1 - share) / len(going)
    return row


def reckoned_behind(web, leap, leaps, row):
    after = [Fraction(0)] * web[0]
    for page, number in enumerate(numbers(row)):
        for there, share in enumerate(reckoned_ways(web, leap, leaps, page)):
            after[there] += number * share
    return fractions(after)


def reckoned_shares(web, leap, leaps):
    """The row that stays, from its own equations and the sum 1, by elimination with a search for each pivot."""
    pages = range(web[0])
    table = [reckoned_ways(web, leap, leaps, page) for page in pages]
    rows = [[table[here][there] - (here == there) for here in pages] + [Fraction(0)] for there in pages]
    rows.append([Fraction(1)] * (web[0] + 1))
    for place in pages:
        chosen = next(turn for turn in range(place, len(rows)) if rows[turn][place] != 0)
        rows[place], rows[chosen] = rows[chosen], rows[place]
        rows[place] = [each / rows[place][place] for each in rows[place]]
        for turn, row in enumerate(rows):
            if turn != place and row[place] != 0:
                rows[turn] = [one - row[place] * two for one, two in zip(row, rows[place])]
    return fractions([row[-1] for row in rows[:web[0]]])
