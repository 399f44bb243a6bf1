import unittest
from fractions import Fraction

from pagewalks.arrivals import first_to, steps_back, steps_to
from pagewalks.fractions import is_fraction
from pagewalks.shares import shares
from pagewalks.webs import even
from samples import (CROWDED, FULL, WEBS, all_leaps, drawn, fraction, fractions, long_leaps, numbers, reckoned_shares,
                     reckoned_ways, rising_leaps)

HALF = (1, 2)
LONG = (123456789011, 999999999989)
LEAPS_OF_SOME = [(1, 1), HALF, (3, 20), LONG]
NOUGHT = (0, 1)


def asked():
    """(name, web, leap, leaps) of every sort, each web with each leap and some leaps."""
    return [(f"{name}, leap {leap}, leaps {place}", web, leap, leaps)
            for name, web in WEBS.items()
            for leap in LEAPS_OF_SOME
            for place, leaps in enumerate(all_leaps(web[0]))]


def some_pages(web):
    return sorted({0, web[0] // 2, web[0] - 1})


class StepsTo(unittest.TestCase):
    """[23] the steps to a page."""

    def assert_steps(self, web, leap, leaps, page):
        told = steps_to(web, leap, leaps, page)
        if reckoned_shares(web, leap, leaps)[page] == NOUGHT:
            self.assertIsNone(told)
            return
        self.assertIsInstance(told, tuple)
        self.assertEqual(len(told), web[0])
        self.assertTrue(all(is_fraction(each) for each in told))
        self.assertEqual(told[page], NOUGHT)
        steps = numbers(told)
        # Together with the nought of the page itself these equations have one answer alone.
        for here in range(web[0]):
            if here != page:
                after = reckoned_ways(web, leap, leaps, here)
                self.assertEqual(steps[here], 1 + sum(one * two for one, two in zip(after, steps)))
        # Back at the page behind a step and the way there: one by its share.
        after = reckoned_ways(web, leap, leaps, page)
        self.assertEqual(1 + sum(one * two for one, two in zip(after, steps)),
                         1 / Fraction(*reckoned_shares(web, leap, leaps)[page]))

    def test_by_hand(self):
        web = (2, ((0, 1),))
        self.assertEqual(steps_to(web, HALF, even(web), 1), ((4, 3), (0, 1)))
        self.assertEqual(steps_to(web, HALF, even(web), 0), ((0, 1), (2, 1)))
        web = (3, ((0, 1), (1, 2), (2, 0)))
        self.assertEqual(steps_to(web, HALF, fractions([1, 0, 0]), 2), ((6, 1), (4, 1), (0, 1)))

    def test_one_page_alone(self):
        for name in ("one page", "one page to itself", "one page sixty times to itself"):
            for leap in LEAPS_OF_SOME:
                with self.subTest(name, leap=leap):
                    self.assertEqual(steps_to(WEBS[name], leap, ((1, 1),), 0), ((0, 1),))

    def test_a_leap_of_one(self):
        for name, web in WEBS.items():
            leaps = rising_leaps(web[0])
            for page in some_pages(web):
                with self.subTest(name, page=page):
                    steps = fraction(1 / Fraction(*leaps[page]))
                    self.assertEqual(steps_to(web, (1, 1), leaps, page),
                                     tuple([NOUGHT if here == page else steps for here in range(web[0])]))

    def test_webs_without_links(self):
        self.assertEqual(steps_to((4, ()), HALF, even((4, ())), 2), ((4, 1), (4, 1), (0, 1), (4, 1)))

    def test_a_page_with_share_nought(self):
        web = (3, ((0, 1),))
        self.assertIsNone(steps_to(web, HALF, fractions([1, 0, 0]), 2))
        self.assertIsNone(steps_to(web, HALF, fractions([0, 0, 1]), 0))
        self.assertIsNone(steps_to(web, HALF, fractions([0, 0, 1]), 1))
        self.assertEqual(steps_to(web, HALF, fractions([0, 0, 1]), 2), ((3, 2), (1, 1), (0, 1)))
        # A link from a page that no walk comes to brings no share.
        self.assertIsNone(steps_to((2, ((1, 1),)), HALF, fractions([1, 0]), 1))
        self.assertIsNone(steps_to((2, ((0, 1),)), (1, 1), fractions([1, 0]), 1))

    def test_from_pages_with_share_nought(self):
        web = (3, ((0, 1), (1, 0), (2, 2)))
        self.assertEqual(steps_to(web, HALF, fractions([1, 0, 0]), 1), ((2, 1), (0, 1), (4, 1)))

    def test_every_sort_of_web(self):
        for name, web, leap, leaps in asked():
            for page in some_pages(web):
                with self.subTest(name, page=page):
                    self.assert_steps(web, leap, leaps, page)

    def test_drawn_webs(self):
        for turn, web, leap, leaps in drawn(120, 23):
            for page in range(web[0]):
                with self.subTest(turn, page=page):
                    self.assert_steps(web, leap, leaps, page)

    def test_numbers_of_twelve_figures(self):
        for web in (FULL, CROWDED):
            for page in range(12):
                with self.subTest(web=web, page=page):
                    self.assert_steps(web, LONG, long_leaps(12), page)

    def test_asked_again_the_same(self):
        first = steps_to(FULL, LONG, long_leaps(12), 3)
        steps_to(CROWDED, HALF, even(CROWDED), 3)
        self.assertEqual(steps_to(FULL, LONG, long_leaps(12), 3), first)

    def test_told_shares_handed_on_as_leaps(self):
        leaps = shares(FULL, LONG, long_leaps(12))
        self.assert_steps(FULL, HALF, leaps, 5)


class StepsBack(unittest.TestCase):
    """[23] the steps back to a page: one by its share."""

    def test_by_hand(self):
        web = (2, ((0, 1),))
        self.assertEqual(steps_back(web, HALF, even(web), 0), (5, 2))
        self.assertEqual(steps_back(web, HALF, even(web), 1), (5, 3))

    def test_one_page_alone(self):
        for name in ("one page", "one page to itself", "one page sixty times to itself"):
            with self.subTest(name):
                self.assertEqual(steps_back(WEBS[name], (3, 20), ((1, 1),), 0), (1, 1))

    def test_a_page_with_share_nought(self):
        web = (3, ((0, 1),))
        self.assertIsNone(steps_back(web, HALF, fractions([1, 0, 0]), 2))
        self.assertIsNone(steps_back(web, HALF, fractions([0, 0, 1]), 1))
        self.assertEqual(steps_back(web, HALF, fractions([0, 0, 1]), 2), (1, 1))
        self.assertEqual(steps_back(web, HALF, fractions([1, 0, 0]), 1), (3, 1))

    def test_every_sort_of_web(self):
        for name, web, leap, leaps in asked():
            row = reckoned_shares(web, leap, leaps)
            for page in some_pages(web):
                with self.subTest(name, page=page):
                    told = steps_back(web, leap, leaps, page)
                    if row[page] == NOUGHT:
                        self.assertIsNone(told)
                    else:
                        self.assertEqual(told, row[page][::-1])
                        self.assertIs(is_fraction(told), True)

    def test_drawn_webs(self):
        for turn, web, leap, leaps in drawn(100, 24):
            row = reckoned_shares(web, leap, leaps)
            for page in range(web[0]):
                with self.subTest(turn, page=page):
                    told = steps_back(web, leap, leaps, page)
                    self.assertEqual(told, None if row[page] == NOUGHT else row[page][::-1])


class FirstTo(unittest.TestCase):
    """[24] which of two pages comes first."""

    def assert_first(self, web, leap, leaps, one, other):
        told = first_to(web, leap, leaps, one, other)
        row = reckoned_shares(web, leap, leaps)
        if row[one] == NOUGHT and row[other] == NOUGHT:
            self.assertIsNone(told)
            return told
        self.assertIsInstance(told, tuple)
        self.assertEqual(len(told), web[0])
        self.assertTrue(all(is_fraction(each) for each in told))
        self.assertEqual(told[one], (1, 1))
        self.assertEqual(told[other], (0, 1))
        values = numbers(told)
        self.assertTrue(all(0 <= each <= 1 for each in values))
        for here in range(web[0]):
            if here not in (one, other):
                after = reckoned_ways(web, leap, leaps, here)
                self.assertEqual(values[here], sum(way * value for way, value in zip(after, values)))
        return told

    def test_by_hand(self):
        web = (3, ((2, 0),))
        self.assertEqual(first_to(web, HALF, even(web), 0, 1), ((1, 1), (0, 1), (4, 5)))
        self.assertEqual(first_to(web, HALF, even(web), 1, 0), ((0, 1), (1, 1), (1, 5)))
        self.assertEqual(first_to((2, ()), HALF, even((2, ())), 0, 1), ((1, 1), (0, 1)))
        self.assertEqual(first_to((2, ()), HALF, even((2, ())), 1, 0), ((0, 1), (1, 1)))

    def test_either_way_round_it_is_together_one(self):
        for turn, web, leap, leaps in drawn(60, 240):
            if web[0] > 1:
                one = turn % web[0]
                other = (one + 1) % web[0]
                with self.subTest(turn):
                    told = first_to(web, leap, leaps, one, other)
                    back = first_to(web, leap, leaps, other, one)
                    if told is None:
                        self.assertIsNone(back)
                    else:
                        self.assertEqual([x + y for x, y in zip(numbers(told), numbers(back))], [1] * web[0])

    def test_one_of_the_two_with_share_nought(self):
        # Page 0 has no share, but page 1, that no walk comes to either, has a link to it.
        web = (4, ((1, 0), (2, 3)))
        leaps = fractions([0, 0, 1, 0])
        self.assertEqual(first_to(web, HALF, leaps, 0, 2), ((1, 1), (1, 2), (0, 1), (0, 1)))
        self.assertEqual(first_to(web, HALF, leaps, 2, 0), ((0, 1), (1, 2), (1, 1), (1, 1)))
        self.assertEqual(first_to(web, HALF, leaps, 3, 0), ((0, 1), (1, 2), (1, 1), (1, 1)))
        self.assertEqual(first_to(web, HALF, leaps, 3, 2), ((0, 1), (0, 1), (0, 1), (1, 1)))

    def test_both_with_share_nought(self):
        web = (4, ((1, 0), (2, 3)))
        leaps = fractions([0, 0, 1, 0])
        self.assertIsNone(first_to(web, HALF, leaps, 0, 1))
        self.assertIsNone(first_to(web, HALF, leaps, 1, 0))
        self.assertIsNone(first_to((3, ((0, 1), (0, 2))), (1, 1), fractions([1, 0, 0]), 1, 2))

    def test_a_leap_of_one(self):
        web = (4, ((2, 0), (3, 1)))
        leaps = rising_leaps(4)
        self.assertEqual(first_to(web, (1, 1), leaps, 0, 1), ((1, 1), (0, 1), (1, 3), (1, 3)))
        self.assertEqual(first_to(web, (1, 1), fractions([0, 0, 1, 0]), 2, 3), ((1, 1), (1, 1), (1, 1), (0, 1)))

    def test_every_sort_of_web(self):
        seen = {}
        for name, web, leap, leaps in asked():
            for one in some_pages(web):
                for other in some_pages(web):
                    if one != other:
                        with self.subTest(name, one=one, other=other):
                            told = self.assert_first(web, leap, leaps, one, other)
                            seen[told is None] = True
        self.assertEqual(seen, {True: True, False: True})

    def test_drawn_webs(self):
        for turn, web, leap, leaps in drawn(80, 25):
            for one in range(web[0]):
                for other in range(web[0]):
                    if one != other:
                        with self.subTest(turn, one=one, other=other):
                            self.assert_first(web, leap, leaps, one, other)

    def test_numbers_of_twelve_figures(self):
        for web in (FULL, CROWDED):
            for one, other in [(0, 11), (11, 0), (4, 7)]:
                with self.subTest(web=web, one=one, other=other):
                    self.assert_first(web, LONG, long_leaps(12), one, other)
