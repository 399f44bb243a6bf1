import unittest
from fractions import Fraction

from pagewalks.fractions import is_fraction
from pagewalks.shares import are_shares, ranked, shares
from pagewalks.steps import behind
from pagewalks.webs import even
from samples import (CROWDED, FULL, WEBS, all_leaps, drawn, fractions, long_leaps, numbers, reckoned_shares,
                     rising_leaps, samples)
from things import deep_things, no_wholes, odd_things

HALF = (1, 2)
LONG = (123456789011, 999999999989)


class Stay(unittest.TestCase):
    """[9], [10] the one row that stays."""

    def assert_stays(self, web, leap, leaps):
        told = shares(web, leap, leaps)
        self.assertIsInstance(told, tuple)
        self.assertEqual(len(told), web[0])
        self.assertTrue(all(is_fraction(each) and each[0] >= 0 for each in told))
        self.assertEqual(sum(numbers(told)), 1)
        self.assertEqual(behind(web, leap, leaps, told), told)
        self.assertEqual(told, reckoned_shares(web, leap, leaps))

    def test_one_link(self):
        self.assertEqual(shares((2, ((0, 1),)), HALF, ((1, 2), (1, 2))), ((2, 5), (3, 5)))

    def test_one_page(self):
        for name in ("one page", "one page to itself", "one page sixty times to itself"):
            with self.subTest(name):
                self.assertEqual(shares(WEBS[name], (3, 20), ((1, 1),)), ((1, 1),))

    def test_webs_without_links_have_the_leaps(self):
        for pages in range(1, 13):
            for leaps in all_leaps(pages):
                for leap in [(1, 1), HALF, LONG]:
                    with self.subTest(pages=pages, leaps=leaps, leap=leap):
                        self.assertEqual(shares((pages, ()), leap, leaps), leaps)

    def test_a_leap_of_one_brings_the_leaps(self):
        for name, web in WEBS.items():
            for leaps in all_leaps(web[0]):
                with self.subTest(name, leaps=leaps):
                    self.assertEqual(shares(web, (1, 1), leaps), leaps)

    def test_a_ring(self):
        ring = WEBS["ring"]
        for leap in [(1, 1), HALF, (1, 10 ** 12 - 1), LONG]:
            with self.subTest(leap):
                self.assertEqual(shares(ring, leap, even(ring)), ((1, 5),) * 5)
        self.assertEqual(shares(ring, HALF, fractions([1, 0, 0, 0, 0])),
                         ((16, 31), (8, 31), (4, 31), (2, 31), (1, 31)))

    def test_all_pages_with_links_to_one_page(self):
        web = WEBS["all to one"]
        self.assertEqual(shares(web, HALF, even(web)), ((1, 8), (1, 8), (5, 8), (1, 8)))
        self.assertEqual(shares(web, (1, 5), even(web)), ((1, 20), (1, 20), (17, 20), (1, 20)))

    def test_all_pages_with_links_to_one_page_without_links(self):
        web = (3, ((1, 0), (2, 0)))
        self.assertEqual(shares(web, HALF, even(web)), ((1, 2), (1, 4), (1, 4)))

    def test_pages_that_no_walk_comes_to_have_share_nought(self):
        web = (3, ((0, 1),))
        self.assertEqual(shares(web, HALF, fractions([1, 0, 0])), ((2, 3), (1, 3), (0, 1)))
        self.assertEqual(shares(web, HALF, fractions([0, 0, 1])), ((0, 1), (0, 1), (1, 1)))

    def test_links_alike_weigh_more(self):
        web = (2, ((0, 0), (0, 1), (0, 1), (1, 0)))
        self.assertEqual(shares(web, (1, 4), even(web)), ((7, 12), (5, 12)))

    def test_every_sort_of_web(self):
        for name, web, leap, leaps in samples():
            with self.subTest(name):
                self.assert_stays(web, leap, leaps)

    def test_drawn_webs(self):
        for turn, web, leap, leaps in drawn(150, 11):
            with self.subTest(turn):
                self.assert_stays(web, leap, leaps)

    def test_asked_again_the_same(self):
        first = shares(FULL, LONG, long_leaps(12))
        shares(CROWDED, HALF, even(CROWDED))
        self.assertEqual(shares(FULL, LONG, long_leaps(12)), first)


class Checked(unittest.TestCase):
    """[11] whether a thing is the shares, of anything."""

    web = (3, ((0, 1), (0, 2), (1, 2), (2, 0), (2, 0)))
    leap = (1, 5)
    leaps = rising_leaps(3)

    def setUp(self):
        self.row = shares(self.web, self.leap, self.leaps)

    def assert_told(self, thing, told):
        self.assertIs(are_shares(self.web, self.leap, self.leaps, thing), told)

    def test_the_shares(self):
        self.assert_told(self.row, True)
        for name, web, leap, leaps in samples():
            with self.subTest(name):
                self.assertIs(are_shares(web, leap, leaps, shares(web, leap, leaps)), True)

    def test_shares_written_by_hand(self):
        web = (2, ((0, 1),))
        self.assertIs(are_shares(web, HALF, even(web), ((2, 5), (3, 5))), True)
        self.assertIs(are_shares(web, HALF, even(web), ((1, 2), (1, 2))), False)
        self.assertIs(are_shares(web, HALF, even(web), ((3, 5), (2, 5))), False)

    def test_a_little_more_on_one_page_and_less_on_another(self):
        for name, web, leap, leaps in samples():
            row = numbers(shares(web, leap, leaps))
            for little in (Fraction(1, 10 ** 12), Fraction(-1, 10 ** 60)):
                for one in range(web[0] - 1):
                    with self.subTest(name, one=one, little=little):
                        other = row[:one] + [row[one] + little, row[one + 1] - little] + row[one + 2:]
                        self.assertIs(are_shares(web, leap, leaps, fractions(other)), False)

    def test_two_shares_exchanged(self):
        one, two, three = self.row
        for row in [(two, one, three), (one, three, two), (three, two, one), (two, three, one)]:
            with self.subTest(row):
                self.assert_told(row, False)

    def test_rows_that_stay_but_are_not_together_one(self):
        for part in (0, 2, -1, Fraction(1, 2), Fraction(10 ** 12, 10 ** 12 - 1)):
            with self.subTest(part):
                row = fractions([part * each for each in numbers(self.row)])
                self.assertEqual(behind(self.web, self.leap, self.leaps, row), row)
                self.assert_told(row, False)

    def test_shares_of_another_web_leap_or_leaps(self):
        self.assert_told(shares(self.web, (1, 4), self.leaps), False)
        self.assert_told(shares(self.web, self.leap, even(self.web)), False)
        self.assert_told(shares((3, self.web[1][1:]), self.leap, self.leaps), False)
        self.assert_told(self.leaps, False)

    def test_one_too_few_or_too_many(self):
        self.assert_told(self.row[:2], False)
        self.assert_told(self.row[1:], False)
        self.assert_told(self.row + ((0, 1),), False)
        self.assert_told(((0, 1),) + self.row, False)
        self.assert_told((), False)
        self.assert_told(self.row * 2, False)

    def test_lists(self):
        self.assert_told(list(self.row), False)
        for place in range(3):
            with self.subTest(place):
                self.assert_told(self.row[:place] + (list(self.row[place]),) + self.row[place + 1:], False)

    def test_not_in_least_numbers(self):
        for place in range(3):
            above, below = self.row[place]
            for share in [(2 * above, 2 * below), (-above, -below), (above, below, 1), (above,), above]:
                with self.subTest(place, share=share):
                    self.assert_told(self.row[:place] + (share,) + self.row[place + 1:], False)
        alone = (2, ((0, 0),))
        leaps = fractions([1, 0])
        self.assertIs(are_shares(alone, HALF, leaps, ((1, 1), (0, 1))), True)
        for row in [((1, 1), (0, 2)), ((1, 1), (0, 0)), ((1, 1), (0, -1)), ((2, 2), (0, 1)), ((-1, -1), (0, 1))]:
            with self.subTest(row):
                self.assertIs(are_shares(alone, HALF, leaps, row), False)

    def test_truths_within(self):
        alone = (2, ((0, 0),))
        leaps = fractions([1, 0])
        for row in [((True, 1), (0, 1)), ((1, True), (0, 1)), ((1, 1), (False, 1)), ((1, 1), (0, True)),
                    (True, (0, 1)), ((1, 1), False), (True, False), (1, 0)]:
            with self.subTest(row):
                self.assertIs(are_shares(alone, HALF, leaps, row), False)

    def test_other_things_within(self):
        for name, thing in odd_things():
            for place in range(3):
                with self.subTest(name, place=place):
                    self.assert_told(self.row[:place] + (thing,) + self.row[place + 1:], False)
        for name, thing in no_wholes():
            with self.subTest(name):
                self.assert_told(((thing, 2),) + self.row[1:], False)
                self.assert_told(((1, thing),) + self.row[1:], False)

    def test_other_things(self):
        for name, thing in odd_things():
            with self.subTest(name):
                self.assert_told(thing, False)

    def test_deep_things(self):
        for name, thing in deep_things():
            with self.subTest(name):
                self.assert_told((thing,) * 3, False)
                self.assert_told(((thing, thing),) * 3, False)

    def test_numbers_of_seventy_figures(self):
        below = 10 ** 70 - 1
        self.assert_told(fractions([Fraction(1, below), Fraction(2, below), Fraction(below - 3, below)]), False)
        self.assert_told(((1, 10 ** 69), (1, 10 ** 69 + 1), (1, 10 ** 69 + 7)), False)
        self.assertIs(are_shares(FULL, HALF, even(FULL), fractions([Fraction(1, 10 ** 69 + k) for k in range(12)])),
                      False)

    def test_a_thing_asked_of_is_not_changed(self):
        thing = [list(each) for each in self.row]
        kept = [list(each) for each in thing]
        self.assert_told(thing, False)
        self.assertEqual(thing, kept)


class Ranked(unittest.TestCase):
    """[12] the ranking."""

    def test_unlike_shares(self):
        web = (4, ((0, 2), (0, 3), (1, 3), (2, 3)))
        self.assertEqual(ranked(web, HALF, even(web)), [3, 2, 0, 1])
        self.assertEqual(ranked((4, ()), HALF, rising_leaps(4)), [3, 2, 1, 0])

    def test_like_shares_the_lesser_page_first(self):
        for pages in range(1, 13):
            with self.subTest(pages):
                self.assertEqual(ranked((pages, ()), HALF, even((pages, ()))), list(range(pages)))
        self.assertEqual(ranked(WEBS["ring"], HALF, even(WEBS["ring"])), [0, 1, 2, 3, 4])
        self.assertEqual(ranked(WEBS["all to one"], HALF, even(WEBS["all to one"])), [2, 0, 1, 3])
        self.assertEqual(ranked((5, ()), HALF, fractions([0, Fraction(1, 4), 0, Fraction(1, 4), Fraction(1, 2)])),
                         [4, 1, 3, 0, 2])

    def test_shares_that_differ_by_little(self):
        near = fractions([Fraction(10 ** 11 - 1, 2 * 10 ** 11), Fraction(10 ** 11 + 1, 2 * 10 ** 11)])
        self.assertEqual(ranked((2, ()), HALF, near), [1, 0])
        self.assertEqual(ranked((2, ()), HALF, near[::-1]), [0, 1])

    def test_greater_numbers_are_no_greater_shares(self):
        leaps = fractions([Fraction(40, 100), Fraction(1, 2), Fraction(1, 10)])
        self.assertEqual(ranked((3, ()), HALF, leaps), [1, 0, 2])
        leaps = fractions([Fraction(3, 20), Fraction(29, 100), Fraction(1, 50), Fraction(27, 50)])
        self.assertEqual(ranked((4, ()), HALF, leaps), [3, 1, 0, 2])

    def test_pages_of_two_figures(self):
        web = (12, tuple([(page, 10) for page in range(12)]))
        self.assertEqual(ranked(web, HALF, even(web)), [10, 0, 1, 2, 3, 4, 5, 6, 7, 8, 9, 11])

    def test_every_sort_of_web(self):
        for name, web, leap, leaps in samples():
            with self.subTest(name):
                row = numbers(reckoned_shares(web, leap, leaps))
                told = ranked(web, leap, leaps)
                self.assertIsInstance(told, list)
                self.assertEqual(told, sorted(range(web[0]), key=lambda page: (-row[page], page)))

    def test_a_told_list_is_the_askers_own(self):
        web = WEBS["all to one"]
        first = ranked(web, HALF, even(web))
        second = ranked(web, HALF, even(web))
        first.reverse()
        first.append(7)
        self.assertEqual(second, [2, 0, 1, 3])
        self.assertEqual(ranked(web, HALF, even(web)), [2, 0, 1, 3])
