import unittest
from fractions import Fraction

from pagewalks.fractions import is_fraction
from pagewalks.nearness import apart, steps_enough, walked
from pagewalks.shares import shares
from pagewalks.steps import behind
from pagewalks.webs import even
from samples import (CROWDED, FULL, WEBS, drawn, fraction, fractions, long_leaps, numbers, reckoned_behind, rising_leaps,
                     samples)

HALF = (1, 2)
LONG = (123456789011, 999999999989)
# Two pages without links, to which leaps of long numbers lead: the numbers of a row grow with each step.
GROWING = (12, tuple([(here, there) for here, there in FULL[1] if here not in (8, 9)]))
SMALLEST = (1, 10 ** 12 - 1)
LEAPS = [(1, 100), (1, 99), (3, 20), HALF, (99, 100), (10 ** 12 - 2, 10 ** 12 - 1), (10000000000, 999999999989), (1, 1)]


def rows(pages):
    """Rows of any fractions: shares, noughts, whole numbers, below 0, numbers of twelve figures."""
    return [
        fractions([Fraction(1, pages)] * pages),
        fractions([0] * pages),
        fractions([page - 3 for page in range(pages)]),
        fractions([Fraction(-page - 1, page + 2) for page in range(pages)]),
        fractions([Fraction((-1) ** page * (10 ** 12 - 11 - page), 10 ** 12 - 1 - 2 * page) for page in range(pages)]),
    ]


def power(number, many):
    return Fraction(*number) ** many


class Apart(unittest.TestCase):
    """[25] how far two rows lie apart."""

    def test_by_hand(self):
        self.assertEqual(apart(((1, 2), (1, 2)), ((2, 5), (3, 5))), (1, 5))
        self.assertEqual(apart(((1, 1), (0, 1)), ((0, 1), (1, 1))), (2, 1))
        self.assertEqual(apart(((1, 3),), ((1, 2),)), (1, 6))
        self.assertEqual(apart(((1, 2), (1, 3), (1, 6)), ((1, 3), (1, 3), (1, 3))), (1, 3))

    def test_numbers_below_nought(self):
        self.assertEqual(apart(((-1, 2), (3, 1)), ((1, 2), (-1, 4))), (17, 4))
        self.assertEqual(apart(((-1, 1),), ((-3, 1),)), (2, 1))
        self.assertEqual(apart(((-3, 1),), ((-1, 1),)), (2, 1))
        self.assertEqual(apart(((5, 1), (-5, 1)), ((-5, 1), (5, 1))), (20, 1))

    def test_a_row_and_itself(self):
        for pages in range(1, 13):
            for row in rows(pages) + [long_leaps(pages)]:
                with self.subTest(row):
                    self.assertEqual(apart(row, row), (0, 1))

    def test_any_two_rows_either_way_round(self):
        for pages in (1, 2, 5, 12):
            every = rows(pages) + [long_leaps(pages), rising_leaps(pages)]
            for one in every:
                for other in every:
                    with self.subTest(one=one, other=other):
                        told = apart(one, other)
                        self.assertIs(is_fraction(told), True)
                        self.assertEqual(told, fraction(sum([abs(x - y) for x, y in zip(numbers(one), numbers(other))],
                                                            Fraction(0))))
                        self.assertEqual(apart(other, one), told)

    def test_rows_with_numbers_of_some_thousand_figures(self):
        leaps = long_leaps(12)
        one = walked(GROWING, LONG, leaps, rows(12)[4], 40)
        other = shares(GROWING, LONG, leaps)
        self.assertTrue(max(below for above, below in one) > 10 ** 1000)
        self.assertEqual(apart(one, other),
                         fraction(sum([abs(x - y) for x, y in zip(numbers(one), numbers(other))])))


class StepsEnough(unittest.TestCase):
    """[26] the least number of steps that is enough."""

    def assert_least(self, leap, near):
        told = steps_enough(leap, near)
        self.assertIs(told.__class__, int)
        self.assertGreaterEqual(told, 0)
        stay = fraction(1 - Fraction(*leap))
        self.assertLessEqual(2 * power(stay, told), Fraction(*near))
        if told > 0:
            self.assertGreater(2 * power(stay, told - 1), Fraction(*near))

    def test_two_or_more_needs_none(self):
        for leap in LEAPS:
            for near in [(2, 1), (3, 1), (10 ** 12 - 1, 1), (2 * 10 ** 11 + 1, 10 ** 11), (7, 3)]:
                with self.subTest(leap, near=near):
                    self.assertEqual(steps_enough(leap, near), 0)

    def test_somewhat_less_than_two_needs_one_at_least(self):
        for leap in LEAPS:
            for near in [(2 * 10 ** 11 - 1, 10 ** 11), (199, 100)]:
                with self.subTest(leap, near=near):
                    self.assertEqual(steps_enough(leap, near), 1)

    def test_a_leap_of_one(self):
        for near in [(1, 1), HALF, SMALLEST, (199, 100)]:
            with self.subTest(near):
                self.assertEqual(steps_enough((1, 1), near), 1)

    def test_by_halves(self):
        for many in range(39):
            with self.subTest(many):
                self.assertEqual(steps_enough(HALF, (1, 2 ** many)), many + 1)
                self.assertEqual(steps_enough(HALF, (2 ** many + 1, 2 ** (many + 1))), 2 if many else 1)
        self.assertEqual(steps_enough(HALF, (1, 3)), 3)
        self.assertEqual(steps_enough(HALF, (1, 5)), 4)

    def test_just_so_far_is_enough(self):
        for many in range(1, 7):
            near = fraction(2 * power((99, 100), many))
            with self.subTest(many):
                self.assertEqual(steps_enough((1, 100), near), many)
                above, below = near
                self.assertEqual(steps_enough((1, 100), fraction(Fraction(above, below) - Fraction(1, 10 ** 15))),
                                 many + 1)
                self.assertEqual(steps_enough((1, 100), fraction(Fraction(above, below) + Fraction(1, 10 ** 15))),
                                 many)

    def test_a_hundredth_and_small_fractions(self):
        self.assertEqual(steps_enough((1, 100), (1, 1)), 69)
        self.assertEqual(steps_enough((1, 100), (1, 100)), 528)
        self.assertEqual(steps_enough((1, 100), SMALLEST), 2819)

    def test_of_the_told_number_it_holds_of_one_less_it_does_not(self):
        for leap in LEAPS:
            for near in [(1, 1), (3, 2), HALF, (1, 7), (5, 999), (123456, 10 ** 12 - 1), (1, 10 ** 11), SMALLEST]:
                with self.subTest(leap, near=near):
                    self.assert_least(leap, near)

    def test_every_number_of_steps_in_turn(self):
        for leap in [(1, 4), (2, 3)]:
            stay = fraction(1 - Fraction(*leap))
            for many in range(1, 40):
                with self.subTest(leap, many=many):
                    self.assertEqual(steps_enough(leap, fraction(2 * power(stay, many))), many)

    def test_told_fractions_of_many_figures_handed_on(self):
        leaps = long_leaps(12)
        near = apart(walked(GROWING, LONG, leaps, even(GROWING), 40), shares(GROWING, LONG, leaps))
        self.assertTrue(near[1] > 10 ** 1000)
        self.assert_least((3, 20), near)

    def test_so_many_steps_bring_any_row_near(self):
        for turn, web, leap, leaps in drawn(60, 26):
            if leap[0] * 4 < leap[1]:
                continue
            row = shares(web, leap, leaps)
            starts = [fractions([int(page == chosen) for page in range(web[0])]) for chosen in range(web[0])]
            for near in [(1, 1), (1, 10), (1, 1000)]:
                many = steps_enough(leap, near)
                for start in starts + [even(web), rising_leaps(web[0])]:
                    with self.subTest(turn, near=near, start=start):
                        self.assertLessEqual(Fraction(*apart(walked(web, leap, leaps, start, many), row)),
                                             Fraction(*near))


class Walked(unittest.TestCase):
    """[27] the row behind so many steps."""

    def assert_walked(self, web, leap, leaps, row, many):
        told = walked(web, leap, leaps, row, many)
        for _ in range(many):
            row = reckoned_behind(web, leap, leaps, row)
        self.assertIsInstance(told, tuple)
        self.assertTrue(all(is_fraction(each) for each in told))
        self.assertEqual(told, row)

    def test_no_step(self):
        for pages in (1, 4, 12):
            web = (pages, ((0, 0), (0, pages - 1)))
            for row in rows(pages):
                with self.subTest(row):
                    self.assertEqual(walked(web, HALF, even(web), row, 0), row)

    def test_one_step(self):
        web = (2, ((0, 1),))
        self.assertEqual(walked(web, HALF, even(web), ((1, 2), (1, 2)), 1), ((3, 8), (5, 8)))
        for name, web, leap, leaps in samples()[::5]:
            for row in rows(web[0])[2:]:
                with self.subTest(name, row=row):
                    self.assertEqual(walked(web, leap, leaps, row, 1), behind(web, leap, leaps, row))

    def test_several_steps(self):
        web = (2, ((0, 1),))
        self.assertEqual(walked(web, HALF, even(web), ((1, 1), (0, 1)), 2), ((7, 16), (9, 16)))
        for name, web, leap, leaps in samples()[::7]:
            for row in rows(web[0]):
                for many in (2, 3, 5):
                    with self.subTest(name, row=row, many=many):
                        self.assert_walked(web, leap, leaps, row, many)

    def test_forty_steps(self):
        for name, web in WEBS.items():
            for leap in [HALF, (1, 1), LONG]:
                with self.subTest(name, leap=leap):
                    self.assert_walked(web, leap, rising_leaps(web[0]), rows(web[0])[3], 40)

    def test_forty_steps_with_numbers_of_twelve_figures(self):
        self.assert_walked(GROWING, LONG, long_leaps(12), rows(12)[4], 40)

    def test_every_number_of_steps(self):
        web = WEBS["alike and to itself"]
        row = rows(3)[3]
        for many in range(41):
            with self.subTest(many):
                self.assert_walked(web, (1, 3), rising_leaps(3), row, many)

    def test_the_sum_stays(self):
        for row in rows(12):
            with self.subTest(row):
                told = walked(CROWDED, (3, 20), rising_leaps(12), row, 7)
                self.assertEqual(sum(numbers(told)), sum(numbers(row)))

    def test_the_shares_stay(self):
        row = shares(FULL, LONG, long_leaps(12))
        self.assertEqual(walked(FULL, LONG, long_leaps(12), row, 40), row)

    def test_told_rows_may_be_handed_on(self):
        one = walked(GROWING, LONG, long_leaps(12), rows(12)[4], 40)
        self.assertTrue(max(below for above, below in one) > 10 ** 1000)
        self.assert_walked(GROWING, LONG, long_leaps(12), one, 3)
