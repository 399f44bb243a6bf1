import unittest
from fractions import Fraction

from pagewalks.fractions import is_fraction
from pagewalks.links import gains
from pagewalks.steps import behind, ways
from pagewalks.webs import even
from samples import (CROWDED, FULL, WEBS, drawn, fractions, long_leaps, numbers, reckoned_behind, reckoned_ways,
                     rising_leaps, samples)

HALF = (1, 2)
WEB = (4, ((0, 0), (0, 1), (0, 1), (0, 3), (2, 1)))


def rows(pages):
    """Rows of any fractions: shares, whole numbers, below 0, noughts, numbers of twelve figures."""
    return [
        fractions([Fraction(1, pages)] * pages),
        fractions([0] * pages),
        fractions([page + 3 for page in range(pages)]),
        fractions([Fraction(-page - 1, page + 2) for page in range(pages)]),
        fractions([Fraction((-1) ** page * (10 ** 12 - 11 - page), 10 ** 12 - 1 - 2 * page) for page in range(pages)]),
    ]


class Ways(unittest.TestCase):
    """[7] the ways from a page."""

    def test_a_page_without_links_goes_by_the_leaps(self):
        for leaps in [even(WEB), rising_leaps(4), long_leaps(4), fractions([0, 0, 1, 0])]:
            for leap in [HALF, (1, 1), (1, 10 ** 12 - 1)]:
                for page in (1, 3):
                    with self.subTest(leaps=leaps, leap=leap, page=page):
                        self.assertEqual(ways(WEB, leap, leaps, page), leaps)

    def test_a_page_with_one_link(self):
        self.assertEqual(ways(WEB, HALF, even(WEB), 2), ((1, 8), (5, 8), (1, 8), (1, 8)))

    def test_links_alike_and_to_itself(self):
        self.assertEqual(ways(WEB, HALF, even(WEB), 0), ((1, 4), (3, 8), (1, 8), (1, 4)))
        self.assertEqual(ways(WEB, (1, 5), even(WEB), 0), ((1, 4), (9, 20), (1, 20), (1, 4)))

    def test_leaps_to_one_page_alone(self):
        self.assertEqual(ways(WEB, HALF, fractions([0, 0, 1, 0]), 0), ((1, 8), (1, 4), (1, 2), (1, 8)))
        self.assertEqual(ways(WEB, HALF, fractions([0, 0, 1, 0]), 2), ((0, 1), (1, 2), (1, 2), (0, 1)))

    def test_uneven_leaps(self):
        self.assertEqual(ways(WEB, (1, 3), rising_leaps(4), 0), ((1, 5), (2, 5), (1, 10), (3, 10)))

    def test_a_leap_of_one_leaves_the_leaps_alone(self):
        for page in range(4):
            with self.subTest(page):
                self.assertEqual(ways(WEB, (1, 1), rising_leaps(4), page), rising_leaps(4))

    def test_numbers_of_twelve_figures(self):
        leap = (999999999988, 999999999989)
        leaps = long_leaps(2)
        self.assertEqual(leaps, ((10 ** 11, 999999999989), (899999999989, 999999999989)))
        web = (2, ((0, 0), (0, 1), (0, 1)))
        self.assertEqual(ways(web, leap, leaps, 0), fractions([
            Fraction(999999999988, 999999999989) * Fraction(10 ** 11, 999999999989) + Fraction(1, 3 * 999999999989),
            Fraction(999999999988, 999999999989) * Fraction(899999999989, 999999999989)
            + Fraction(2, 3 * 999999999989)]))

    def test_one_page(self):
        for name in ("one page", "one page to itself", "one page sixty times to itself"):
            with self.subTest(name):
                self.assertEqual(ways(WEBS[name], (3, 20), ((1, 1),), 0), ((1, 1),))

    def test_twelve_pages_with_sixty_links(self):
        twelfth = (1, 12)
        for page in range(5):
            with self.subTest(page):
                self.assertEqual(ways(CROWDED, HALF, even(CROWDED), page), (twelfth,) * 12)
                self.assertEqual(ways(CROWDED, HALF, fractions([1] + [0] * 11), page), ((13, 24),) + ((1, 24),) * 11)
        self.assertEqual(ways(FULL, HALF, even(FULL), 0),
                         fractions([Fraction(1, 24) + Fraction(FULL[1].count((0, page)), 10) for page in range(12)]))

    def test_every_sort_of_web(self):
        for name, web, leap, leaps in samples():
            for page in range(web[0]):
                with self.subTest(name, page=page):
                    told = ways(web, leap, leaps, page)
                    self.assertIsInstance(told, tuple)
                    self.assertTrue(all(is_fraction(each) for each in told))
                    self.assertEqual(sum(numbers(told)), 1)
                    self.assertEqual(told, fractions(reckoned_ways(web, leap, leaps, page)))

    def test_drawn_webs(self):
        for turn, web, leap, leaps in drawn(100, 7):
            for page in range(web[0]):
                with self.subTest(turn, page=page):
                    self.assertEqual(ways(web, leap, leaps, page), fractions(reckoned_ways(web, leap, leaps, page)))


class Behind(unittest.TestCase):
    """[8] the row behind a step."""

    def test_a_row_of_shares(self):
        web = (2, ((0, 1),))
        self.assertEqual(behind(web, HALF, even(web), ((1, 2), (1, 2))), ((3, 8), (5, 8)))
        self.assertEqual(behind(web, HALF, even(web), ((2, 5), (3, 5))), ((2, 5), (3, 5)))

    def test_a_row_with_numbers_below_nought(self):
        web = (2, ((0, 1),))
        self.assertEqual(behind(web, HALF, even(web), ((-1, 1), (1, 3))), ((-1, 12), (-7, 12)))
        self.assertEqual(behind(web, HALF, even(web), ((7, 1), (-5, 2))), ((1, 2), (4, 1)))

    def test_a_row_of_noughts(self):
        self.assertEqual(behind(WEB, HALF, even(WEB), ((0, 1),) * 4), ((0, 1),) * 4)

    def test_one_for_a_page_and_nought_else_is_followed_by_its_ways(self):
        for name, web, leap, leaps in samples():
            for page in sorted({0, web[0] // 2, web[0] - 1}):
                with self.subTest(name, page=page):
                    row = fractions([int(each == page) for each in range(web[0])])
                    self.assertEqual(behind(web, leap, leaps, row), ways(web, leap, leaps, page))

    def test_rows_of_any_fractions(self):
        for name, web, leap, leaps in samples()[::3]:
            for row in rows(web[0]):
                with self.subTest(name, row=row):
                    told = behind(web, leap, leaps, row)
                    self.assertIsInstance(told, tuple)
                    self.assertTrue(all(is_fraction(each) for each in told))
                    self.assertEqual(told, reckoned_behind(web, leap, leaps, row))
                    self.assertEqual(sum(numbers(told)), sum(numbers(row)))

    def test_a_leap_of_one_brings_the_leaps_times_the_sum(self):
        row = ((1, 2), (-1, 3), (5, 1), (0, 1))
        self.assertEqual(behind(WEB, (1, 1), rising_leaps(4), row),
                         fractions([Fraction(31, 6) * each for each in numbers(rising_leaps(4))]))

    def test_rows_told_may_be_handed_on_with_some_thousand_figures(self):
        leap = (123456789011, 999999999989)
        leaps = long_leaps(12)
        row = gains(FULL, leap, leaps, 3)
        whole = sum(numbers(row))
        for _ in range(30):
            row = behind(FULL, leap, leaps, row)
        self.assertGreater(max(below for above, below in row), 10 ** 2000)
        self.assertEqual(sum(numbers(row)), whole)
        self.assertEqual(behind(FULL, leap, leaps, row), reckoned_behind(FULL, leap, leaps, row))

    def test_asked_again_the_same(self):
        row = rows(4)[3]
        first = behind(WEB, HALF, rising_leaps(4), row)
        behind(WEB, (1, 3), even(WEB), rows(4)[1])
        self.assertEqual(behind(WEB, HALF, rising_leaps(4), row), first)
