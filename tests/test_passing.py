import itertools
import unittest
from fractions import Fraction

from pagewalks.passing import least_links
from pagewalks.webs import even
from samples import FULL, WEBS, all_leaps, drawn, fractions, long_leaps, numbers, reckoned_shares, rising_leaps

HALF = (1, 2)
LONG = (123456789011, 999999999989)
LOOPS = (4, ((0, 0), (1, 1), (2, 2), (3, 3)))


def contest(free, halves, wholes):
    """Page 1 is ahead of page 0 by so many whole and half pages; from 3 on are free pages, a half for 0 by each link."""
    links = [(page, 2) for page in range(3, 3 + free)]
    for page in range(3 + free, 3 + free + halves):
        links.extend([(page, 1), (page, 2)])
    for page in range(3 + free + halves, 3 + free + halves + wholes):
        links.append((page, 1))
    return (3 + free + halves + wholes, tuple(links))


def grown(web, chosen, page):
    return (web[0], tuple(sorted(list(web[1]) + [(each, page) for each in chosen])))


def is_ahead(web, leap, leaps, one, other):
    row = numbers(reckoned_shares(web, leap, leaps))
    return row[one] > row[other]


def reckoned_links(web, leap, leaps, one, other, places):
    """Every choice of places, the shortest first and then as lists are ordered."""
    every = [list(each) for many in range(len(places) + 1) for each in itertools.permutations(places, many)
             if list(each) == sorted(each)]
    for chosen in sorted(every, key=lambda each: (len(each), each)):
        if is_ahead(grown(web, chosen, one), leap, leaps, one, other):
            return chosen
    return None


class Passing(unittest.TestCase):
    """[16] the fewest new links by which a page passes another one."""

    def assert_told(self, web, leap, leaps, one, other, places):
        told = least_links(web, leap, leaps, one, other, list(places))
        self.assertEqual(told, reckoned_links(web, leap, leaps, one, other, places))
        if told is not None:
            self.assertIsInstance(told, list)
        return told

    def test_ahead_already(self):
        web = (2, ((0, 1),))
        for places in ([], [0], [1], [0, 1]):
            with self.subTest(places):
                self.assertEqual(least_links(web, HALF, even(web), 1, 0, places), [])

    def test_one_new_link(self):
        web = (3, ())
        self.assertEqual(least_links(web, HALF, even(web), 0, 1, [0, 1, 2]), [0])
        self.assertEqual(least_links(web, HALF, even(web), 0, 1, [2]), [2])
        self.assertEqual(least_links(web, HALF, even(web), 0, 1, [1]), [1])

    def test_as_many_as_are_needed(self):
        for free, halves, wholes, needed in [(3, 1, 0, 2), (2, 1, 0, 2), (4, 2, 0, 3), (4, 0, 1, 3), (5, 1, 1, 4),
                                             (4, 3, 0, 4), (5, 0, 2, 5), (6, 2, 1, 5), (6, 1, 2, 6)]:
            web = contest(free, halves, wholes)
            with self.subTest(web):
                places = list(range(3, 3 + free))
                self.assertEqual(self.assert_told(web, HALF, even(web), 0, 1, places), places[:needed])
                self.assertEqual(least_links(web, HALF, even(web), 0, 1, places[::-1]), places[:needed])
                self.assertEqual(least_links(web, HALF, even(web), 0, 1, places[-needed:]), places[-needed:])
                self.assertIsNone(least_links(web, HALF, even(web), 0, 1, places[:needed - 1]))
                self.assertEqual(least_links(web, HALF, even(web), 1, 0, places), [])

    def test_none_do(self):
        web = (3, ((0, 0), (0, 2), (1, 1), (2, 1)))
        self.assertIsNone(least_links(web, HALF, even(web), 0, 1, [2]))
        self.assertIsNone(least_links(web, HALF, fractions([0, 1, 0]), 0, 1, [0, 2]))

    def test_an_empty_list(self):
        self.assertIsNone(least_links((2, ()), HALF, even((2, ())), 0, 1, []))
        self.assertIsNone(least_links((2, ((0, 1),)), HALF, even((2, ())), 0, 1, []))
        self.assertEqual(least_links((2, ((0, 1),)), HALF, even((2, ())), 1, 0, []), [])

    def test_a_leap_of_one(self):
        for name in ("no links", "all to one", "two apart"):
            web = WEBS[name]
            with self.subTest(name):
                self.assertIsNone(least_links(web, (1, 1), even(web), 0, 2, [0, 1, 2, 3]))
                self.assertIsNone(least_links(web, (1, 1), rising_leaps(4), 0, 2, [0, 1, 2, 3]))
                self.assertEqual(least_links(web, (1, 1), rising_leaps(4), 2, 0, [0, 1, 2, 3]), [])

    def test_like_shares_are_not_greater(self):
        self.assertEqual(least_links(LOOPS, HALF, even(LOOPS), 0, 1, [2, 3]), [2])
        self.assertIsNone(least_links(LOOPS, HALF, even(LOOPS), 0, 1, []))
        # The one new link makes 0 and 1 alike: each has one link of three from 2, no less and no more.
        web = (3, ((2, 1), (2, 2)))
        alike = grown(web, [2], 0)
        row = reckoned_shares(alike, HALF, even(web))
        self.assertEqual(row[0], row[1])
        self.assertIsNone(least_links(web, HALF, even(web), 0, 1, [2]))

    def test_of_several_fewest_the_first_as_lists_are_ordered(self):
        web = (12, ())
        self.assertEqual(least_links(web, HALF, even(web), 0, 1, [11, 10, 9, 3, 2]), [2])
        web = (12, ((3, 2), (4, 1), (4, 2), (5, 1), (5, 2), (9, 2), (10, 2), (11, 2)))
        self.assertEqual(self.assert_told(web, HALF, even(web), 0, 1, [11, 10, 9, 3]), [3, 9, 10])
        self.assertEqual(self.assert_told(web, HALF, even(web), 0, 1, [11, 10, 9]), [9, 10, 11])

    def test_a_later_page_alone_is_fewer_than_two_lesser_ones(self):
        web = (6, ((2, 5), (3, 1), (3, 5), (4, 5)))
        weighty = fractions([Fraction(1, 10), Fraction(1, 10), Fraction(1, 10), Fraction(1, 10), Fraction(1, 2),
                             Fraction(1, 10)])
        self.assertEqual(self.assert_told(web, HALF, weighty, 0, 1, [2, 3, 4]), [4])
        self.assertIsNone(self.assert_told(web, HALF, weighty, 0, 1, [2]))

    def test_lesser_pages_that_bring_less_are_passed_over(self):
        told = {}
        web = (7, ((2, 2), (2, 2), (2, 2), (3, 6), (4, 6), (5, 1), (5, 6)))
        for places in itertools.combinations([2, 3, 4], 2):
            told[places] = self.assert_told(web, HALF, even(web), 0, 1, places)
        self.assertEqual(told, {(2, 3): [2, 3], (2, 4): [2, 4], (3, 4): [3, 4]})
        web = (7, ((2, 6), (2, 6), (2, 6), (3, 6), (4, 6), (5, 1), (5, 6)))
        self.assertEqual(self.assert_told(web, HALF, even(web), 0, 1, [3, 2, 4]), [2, 3])
        web = (8, ((2, 6), (2, 6), (2, 6), (2, 6), (3, 6), (4, 6), (5, 1), (5, 6), (5, 6), (7, 1), (7, 6)))
        self.assertEqual(self.assert_told(web, HALF, even(web), 0, 1, [3, 2, 4]), [3, 4])

    def test_rising_whatever_the_order(self):
        web = contest(4, 2, 0)
        for places in itertools.permutations([3, 4, 5, 6]):
            with self.subTest(places):
                self.assertEqual(least_links(web, HALF, even(web), 0, 1, list(places)), [3, 4, 5])

    def test_pages_that_have_a_link_there_already(self):
        web = (3, ((2, 0), (2, 1), (2, 1)))
        self.assertEqual(self.assert_told(web, HALF, even(web), 0, 1, [2]), None)
        web = (3, ((2, 0), (2, 1)))
        self.assertEqual(self.assert_told(web, HALF, even(web), 0, 1, [2]), [2])

    def test_pages_that_are_one_of_the_two(self):
        web = (3, ((0, 1), (1, 2), (2, 1)))
        for places in ([0], [1], [0, 1], [1, 0, 2]):
            with self.subTest(places):
                self.assert_told(web, HALF, even(web), 0, 1, places)
        self.assertEqual(least_links((2, ()), HALF, even((2, ())), 0, 1, [1, 0]), [0])
        self.assertEqual(least_links((2, ()), HALF, even((2, ())), 0, 1, [1]), [1])

    def test_every_sort_of_web(self):
        for name, web in WEBS.items():
            if web[0] < 2 or len(web[1]) > 54:
                continue
            for leap in [HALF, (3, 20), LONG]:
                for leaps in all_leaps(web[0]):
                    with self.subTest(name, leap=leap, leaps=leaps):
                        places = list(range(web[0]))[:4]
                        self.assert_told(web, leap, leaps, 0, web[0] - 1, places)
                        self.assert_told(web, leap, leaps, web[0] - 1, 0, places[::-1])

    def test_drawn_webs(self):
        seen = {}
        for turn, web, leap, leaps in drawn(250, 16):
            if web[0] > 1:
                with self.subTest(turn):
                    one = turn % web[0]
                    other = (one + 1 + turn // 7 % (web[0] - 1)) % web[0]
                    places = list(range(web[0]))[turn % 2:5]
                    told = self.assert_told(web, leap, leaps, one, other, places[::-1])
                    many = None if told is None else len(told)
                    seen[many] = seen.get(many, 0) + 1
        self.assertLessEqual({None, 0, 1, 2}, set(seen))

    def test_six_pages_of_twelve_with_numbers_of_twelve_figures(self):
        web = (12, FULL[1][:54])
        for one, other in [(0, 11), (11, 0), (6, 1)]:
            with self.subTest(one=one, other=other):
                self.assert_told(web, LONG, long_leaps(12), one, other, [5, 0, 4, 1, 3, 2])

    def test_what_is_handed_in_stays(self):
        web = contest(3, 1, 0)
        places = [5, 3, 4]
        told = least_links(web, HALF, even(web), 0, 1, places)
        self.assertEqual(places, [5, 3, 4])
        self.assertEqual(web, contest(3, 1, 0))
        places.clear()
        self.assertEqual(told, [3, 4])

    def test_a_told_list_is_the_askers_own(self):
        web = (3, ())
        for places, known in [([2], [2]), ([], None)]:
            told = least_links(web, HALF, even(web), 0, 1, places)
            self.assertEqual(told, known)
            if told is not None:
                self.assertIsNot(told, places)
                told.append(9)
                self.assertEqual(places, [2])
                self.assertEqual(least_links(web, HALF, even(web), 0, 1, places), known)
        web = (2, ((0, 1),))
        told = least_links(web, HALF, even(web), 1, 0, [])
        told.append(9)
        self.assertEqual(least_links(web, HALF, even(web), 1, 0, []), [])
