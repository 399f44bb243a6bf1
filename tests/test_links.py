import unittest
from fractions import Fraction

from pagewalks.fractions import is_fraction
from pagewalks.links import gains, turned, with_link, without_link
from pagewalks.shares import shares
from pagewalks.steps import behind
from pagewalks.webs import even, is_web
from samples import CROWDED, FULL, WEBS, drawn, fractions, long_leaps, numbers, reckoned_shares, rising_leaps

HALF = (1, 2)
LONG = (123456789011, 999999999989)
WEB = (3, ((0, 1), (0, 1), (1, 2), (2, 0)))
SMALL = [name for name, web in WEBS.items() if web[0] < 12]


def reckoned_turned(web, leap, leaps, one, other):
    after = reckoned_shares((web[0], tuple(sorted(web[1] + ((one, other),)))), leap, leaps)
    return fractions([new - old for new, old in zip(numbers(after), numbers(reckoned_shares(web, leap, leaps)))])


class WithLink(unittest.TestCase):
    """[13] the web with a link once more."""

    def test_a_link_that_is_not_there(self):
        self.assertEqual(with_link(WEB, 1, 0), (3, ((0, 1), (0, 1), (1, 0), (1, 2), (2, 0))))
        self.assertEqual(with_link(WEB, 0, 0), (3, ((0, 0), (0, 1), (0, 1), (1, 2), (2, 0))))
        self.assertEqual(with_link(WEB, 2, 2), (3, ((0, 1), (0, 1), (1, 2), (2, 0), (2, 2))))
        self.assertEqual(with_link((1, ()), 0, 0), (1, ((0, 0),)))

    def test_a_link_that_is_there(self):
        self.assertEqual(with_link(WEB, 0, 1), (3, ((0, 1), (0, 1), (0, 1), (1, 2), (2, 0))))
        self.assertEqual(with_link(WEB, 1, 2), (3, ((0, 1), (0, 1), (1, 2), (1, 2), (2, 0))))

    def test_every_link(self):
        for name, web in WEBS.items():
            for one in range(web[0]):
                for other in range(web[0]):
                    with self.subTest(name, one=one, other=other):
                        told = with_link(web, one, other)
                        self.assertEqual(told, (web[0], tuple(sorted(list(web[1]) + [(one, other)]))))
                        self.assertIsInstance(told, tuple)
                        self.assertIsInstance(told[1], tuple)
                        self.assertIs(is_web(told), len(web[1]) < 60)

    def test_the_sixty_first(self):
        self.assertEqual(len(FULL[1]), 60)
        told = with_link(FULL, 5, 11)
        self.assertEqual(len(told[1]), 61)
        self.assertEqual(list(told[1]), sorted(told[1]))
        self.assertEqual(told[1].count((5, 11)), FULL[1].count((5, 11)) + 1)
        self.assertEqual(with_link((1, ((0, 0),) * 60), 0, 0), (1, ((0, 0),) * 61))

    def test_the_web_stays_as_it_was(self):
        web = (3, ((0, 1), (0, 1), (1, 2), (2, 0)))
        with_link(web, 0, 0)
        self.assertEqual(web, WEB)


class WithoutLink(unittest.TestCase):
    """[13] the web with a link once less."""

    def test_a_link_that_is_there_once(self):
        self.assertEqual(without_link(WEB, 1, 2), (3, ((0, 1), (0, 1), (2, 0))))
        self.assertEqual(without_link(WEB, 2, 0), (3, ((0, 1), (0, 1), (1, 2))))
        self.assertEqual(without_link((1, ((0, 0),)), 0, 0), (1, ()))

    def test_a_link_that_is_there_several_times(self):
        self.assertEqual(without_link(WEB, 0, 1), (3, ((0, 1), (1, 2), (2, 0))))
        self.assertEqual(without_link((1, ((0, 0),) * 60), 0, 0), (1, ((0, 0),) * 59))

    def test_a_link_that_is_not_there(self):
        for one, other in [(0, 0), (0, 2), (1, 0), (1, 1), (2, 1), (2, 2)]:
            with self.subTest(one=one, other=other):
                self.assertIsNone(without_link(WEB, one, other))
        self.assertIsNone(without_link((12, ()), 11, 0))

    def test_every_link_of_every_sort_of_web(self):
        for name, web in WEBS.items():
            for one in range(web[0]):
                for other in range(web[0]):
                    with self.subTest(name, one=one, other=other):
                        told = without_link(web, one, other)
                        if (one, other) in web[1]:
                            links = list(web[1])
                            links.remove((one, other))
                            self.assertEqual(told, (web[0], tuple(links)))
                            self.assertIs(is_web(told), True)
                        else:
                            self.assertIsNone(told)

    def test_a_web_of_sixty_one_links(self):
        for web in (FULL, CROWDED):
            for one in range(12):
                for other in range(12):
                    self.assertEqual(without_link(with_link(web, one, other), one, other), web)
        more = with_link(CROWDED, 11, 11)
        self.assertEqual(without_link(more, 0, 0), (12, CROWDED[1][1:] + ((11, 11),)))
        self.assertIsNone(without_link(more, 11, 10))
        self.assertEqual(without_link((1, ((0, 0),) * 61), 0, 0), (1, ((0, 0),) * 60))

    def test_the_web_stays_as_it_was(self):
        web = (3, ((0, 1), (0, 1), (1, 2), (2, 0)))
        without_link(web, 0, 1)
        without_link(web, 0, 0)
        self.assertEqual(web, WEB)


class Turned(unittest.TestCase):
    """[14] what a link turns each share by."""

    def assert_turned(self, web, leap, leaps, one, other):
        told = turned(web, leap, leaps, one, other)
        self.assertIsInstance(told, tuple)
        self.assertTrue(all(is_fraction(each) for each in told))
        self.assertEqual(sum(numbers(told)), 0)
        self.assertGreaterEqual(told[other][0], 0)
        self.assertEqual(told, reckoned_turned(web, leap, leaps, one, other))

    def test_by_hand(self):
        web = (2, ())
        self.assertEqual(turned(web, HALF, even(web), 0, 1), ((-1, 10), (1, 10)))
        self.assertEqual(turned(web, HALF, even(web), 1, 1), ((-1, 6), (1, 6)))
        self.assertEqual(turned((2, ((0, 1), (1, 1))), HALF, even(web), 1, 1), ((0, 1), (0, 1)))
        self.assertEqual(turned((1, ()), HALF, ((1, 1),), 0, 0), ((0, 1),))

    def test_a_share_that_stays_nought(self):
        leaps = fractions([1, 0, 0])
        self.assertEqual(turned((3, ()), HALF, leaps, 1, 2), ((0, 1),) * 3)
        self.assertEqual(turned((3, ()), HALF, leaps, 0, 2), ((-1, 3), (0, 1), (1, 3)))

    def test_every_link_of_every_sort_of_web(self):
        for name in SMALL:
            web = WEBS[name]
            for leap, leaps in [(HALF, even(web)), ((3, 20), rising_leaps(web[0])), (LONG, long_leaps(web[0]))]:
                for one in range(web[0]):
                    for other in range(web[0]):
                        with self.subTest(name, leap=leap, one=one, other=other):
                            self.assert_turned(web, leap, leaps, one, other)

    def test_drawn_webs(self):
        for turn, web, leap, leaps in drawn(60, 13):
            with self.subTest(turn):
                self.assert_turned(web, leap, leaps, turn % web[0], turn * 3 % web[0])

    def test_twelve_pages_with_sixty_links(self):
        for one, other in [(0, 11), (7, 7), (11, 0)]:
            for web in (FULL, CROWDED):
                with self.subTest(web=web, one=one, other=other):
                    self.assert_turned(web, LONG, long_leaps(12), one, other)

    def test_it_is_the_shares_with_the_link_less_the_shares_now(self):
        now = numbers(shares(WEB, (1, 3), rising_leaps(3)))
        then = numbers(shares(with_link(WEB, 2, 1), (1, 3), rising_leaps(3)))
        self.assertEqual(turned(WEB, (1, 3), rising_leaps(3), 2, 1),
                         fractions([new - old for new, old in zip(then, now)]))

    def test_by_a_leap_of_one_all_are_nought(self):
        for name, web in WEBS.items():
            for leaps in (even(web), rising_leaps(web[0])):
                with self.subTest(name, leaps=leaps):
                    self.assertEqual(turned(web, (1, 1), leaps, 0, web[0] - 1), ((0, 1),) * web[0])

    def test_told_rows_may_be_handed_on(self):
        row = turned(FULL, LONG, long_leaps(12), 2, 9)
        self.assertEqual(sum(numbers(behind(FULL, LONG, long_leaps(12), row))), 0)


class Gains(unittest.TestCase):
    """[15] what a link from each page brings to a told page."""

    def assert_gains(self, web, leap, leaps, page):
        told = gains(web, leap, leaps, page)
        self.assertIsInstance(told, tuple)
        self.assertEqual(told, tuple([turned(web, leap, leaps, one, page)[page] for one in range(web[0])]))
        self.assertTrue(all(is_fraction(each) and each[0] >= 0 for each in told))

    def test_by_hand(self):
        web = (2, ())
        self.assertEqual(gains(web, HALF, even(web), 1), ((1, 10), (1, 6)))
        self.assertEqual(gains(web, HALF, even(web), 0), ((1, 6), (1, 10)))
        self.assertEqual(gains((1, ()), HALF, ((1, 1),), 0), ((0, 1),))

    def test_a_page_that_has_the_link_already(self):
        web = (2, ((0, 0), (0, 1), (1, 0)))
        told = gains(web, HALF, even(web), 1)
        self.assertEqual(told[0], fractions([Fraction(*reckoned_turned(web, HALF, even(web), 0, 1)[1])])[0])
        self.assertGreater(told[0][0], 0)

    def test_every_sort_of_web(self):
        for name in SMALL:
            web = WEBS[name]
            for leap, leaps in [(HALF, even(web)), ((3, 20), rising_leaps(web[0])), (LONG, long_leaps(web[0]))]:
                for page in range(web[0]):
                    with self.subTest(name, leap=leap, page=page):
                        self.assert_gains(web, leap, leaps, page)
                        told = gains(web, leap, leaps, page)
                        one = page * 2 % web[0]
                        self.assertEqual(told[one], reckoned_turned(web, leap, leaps, one, page)[page])

    def test_twelve_pages_with_sixty_links(self):
        for web in (FULL, CROWDED):
            for page in (0, 11):
                with self.subTest(web=web, page=page):
                    self.assert_gains(web, LONG, long_leaps(12), page)

    def test_by_a_leap_of_one_nothing_is_gained(self):
        for name, web in WEBS.items():
            with self.subTest(name):
                self.assertEqual(gains(web, (1, 1), even(web), web[0] - 1), ((0, 1),) * web[0])
