import fractions
import itertools
import unittest

from pagewalks.fractions import aboves, by, is_fraction, is_less, less, made, plus, shared_below, times
from things import no_wholes, odd_things

SMALL = [(above, below) for below in range(1, 7) for above in range(-9, 10)
         if fractions.Fraction(above, below).denominator == below]
GREAT = [
    (999999999999, 999999999998),
    (-999999999999, 999999999998),
    (1, 999999999989),
    (-1, 999999999989),
    (123456789012, 5),
    (-500000000002, 999999999999),
    (600000000000, 700000000001),
]


def same(fraction):
    return fractions.Fraction(fraction[0], fraction[1])


def parts(number):
    return (number.numerator, number.denominator)


def pairs():
    return itertools.chain(itertools.product(SMALL, SMALL), itertools.product(GREAT, GREAT + SMALL[:20]),
                           itertools.product(SMALL[:20], GREAT))


class Asked(unittest.TestCase):
    """[3] whether a thing is a fraction, of anything."""

    def assert_told(self, thing, told):
        self.assertIs(is_fraction(thing), told)

    def test_fractions(self):
        for thing in SMALL + GREAT + [(0, 1), (1, 1), (-1, 1), (7, 1), (-7, 3), (10 ** 69, 10 ** 69 + 1)]:
            with self.subTest(thing):
                self.assert_told(thing, True)

    def test_nought_is_only_nought_by_one(self):
        self.assert_told((0, 1), True)
        for below in (2, 3, 12, -1, 0, 10 ** 69):
            with self.subTest(below):
                self.assert_told((0, below), False)

    def test_not_in_least_numbers(self):
        for thing in [(2, 2), (2, 4), (-2, 4), (6, 9), (-10, 5), (10 ** 40, 10 ** 39), (3 * 10 ** 12, 3 * 10 ** 12)]:
            with self.subTest(thing):
                self.assert_told(thing, False)

    def test_below_of_nought_or_less(self):
        for thing in [(1, 0), (-1, 0), (0, 0), (5, 0), (1, -1), (1, -2), (-1, -2), (3, -7), (0, -1)]:
            with self.subTest(thing):
                self.assert_told(thing, False)

    def test_every_small_pair(self):
        for above, below in itertools.product(range(-12, 13), range(-3, 13)):
            with self.subTest(above=above, below=below):
                told = below > 0 and parts(fractions.Fraction(above, below)) == (above, below)
                self.assert_told((above, below), told)

    def test_other_things_than_whole_numbers_within(self):
        for name, thing in no_wholes():
            with self.subTest(name):
                self.assert_told((thing, 1), False)
                self.assert_told((1, thing), False)
                self.assert_told((thing, thing), False)

    def test_one_or_three_things(self):
        for thing in [(), (1,), (0,), (1, 2, 3), (1, 2, 1), (0, 1, 1), (1, 1, None), ((1, 2),)]:
            with self.subTest(thing):
                self.assert_told(thing, False)

    def test_a_list_is_none(self):
        for thing in [[1, 2], [0, 1], [], [1]]:
            with self.subTest(thing):
                self.assert_told(thing, False)

    def test_other_things(self):
        for name, thing in odd_things():
            with self.subTest(name):
                self.assert_told(thing, False)

    def test_a_thing_asked_of_is_not_changed(self):
        thing = [1, 2]
        is_fraction(thing)
        is_fraction((thing, 1))
        self.assertEqual(thing, [1, 2])


class Made(unittest.TestCase):
    """[3] the fraction that two whole numbers make."""

    def assert_made(self, above, below, told):
        fraction = made(above, below)
        self.assertEqual(fraction, told)
        self.assertIs(is_fraction(fraction), True)

    def test_every_small_pair(self):
        for above, below in itertools.product(range(-20, 21), range(-20, 21)):
            if below != 0:
                with self.subTest(above=above, below=below):
                    self.assert_made(above, below, parts(fractions.Fraction(above, below)))

    def test_signs(self):
        self.assert_made(6, 4, (3, 2))
        self.assert_made(-6, 4, (-3, 2))
        self.assert_made(6, -4, (-3, 2))
        self.assert_made(-6, -4, (3, 2))

    def test_nought(self):
        for below in (1, 2, -1, -9, 10 ** 29, -(10 ** 29)):
            with self.subTest(below):
                self.assert_made(0, below, (0, 1))

    def test_thirty_figures(self):
        one = 123456789012345678901234567890
        other = 987654321098765432109876543210
        for above, below in itertools.product((one, -one, other, one * 7), (other, -other, one, -one, 30)):
            with self.subTest(above=above, below=below):
                self.assert_made(above, below, parts(fractions.Fraction(above, below)))

    def test_forty_figures(self):
        self.assert_made(10 ** 40 - 1, -(10 ** 40 - 1), (-1, 1))
        self.assert_made(10 ** 39, 2 * 10 ** 39, (1, 2))


class Reckoned(unittest.TestCase):
    """[3] sum, difference, product, quotient, and which of two is less."""

    def assert_like(self, own, known, divides=False):
        for one, other in pairs():
            if divides and other == (0, 1):
                continue
            with self.subTest(one=one, other=other):
                told = own(one, other)
                self.assertEqual(told, parts(known(same(one), same(other))))
                self.assertIs(is_fraction(told), True)

    def test_sum(self):
        self.assertEqual(plus((1, 2), (1, 3)), (5, 6))
        self.assertEqual(plus((1, 2), (-1, 2)), (0, 1))
        self.assert_like(plus, lambda one, other: one + other)

    def test_difference(self):
        self.assertEqual(less((1, 2), (1, 3)), (1, 6))
        self.assertEqual(less((1, 3), (1, 2)), (-1, 6))
        self.assertEqual(less((5, 7), (5, 7)), (0, 1))
        self.assert_like(less, lambda one, other: one - other)

    def test_product(self):
        self.assertEqual(times((2, 3), (3, 4)), (1, 2))
        self.assertEqual(times((-2, 3), (0, 1)), (0, 1))
        self.assert_like(times, lambda one, other: one * other)

    def test_quotient(self):
        self.assertEqual(by((1, 2), (3, 4)), (2, 3))
        self.assertEqual(by((1, 2), (-3, 4)), (-2, 3))
        self.assertEqual(by((0, 1), (-3, 4)), (0, 1))
        self.assert_like(by, lambda one, other: one / other, divides=True)

    def test_less_both_ways(self):
        self.assertIs(is_less((1, 3), (1, 2)), True)
        self.assertIs(is_less((1, 2), (1, 3)), False)
        self.assertIs(is_less((-1, 2), (-1, 3)), True)
        self.assertIs(is_less((-1, 3), (-1, 2)), False)
        self.assertIs(is_less((-1, 2), (0, 1)), True)
        for one, other in pairs():
            with self.subTest(one=one, other=other):
                self.assertIs(is_less(one, other), same(one) < same(other))

    def test_like_ones_are_not_less(self):
        for one in SMALL + GREAT:
            with self.subTest(one):
                self.assertIs(is_less(one, one), False)

    def test_numbers_of_some_thousand_figures(self):
        one = (3 ** 5000, 2 ** 5000)
        other = (-(5 ** 2000), 7 ** 2000)
        self.assertEqual(plus(one, other), parts(same(one) + same(other)))
        self.assertEqual(times(one, other), parts(same(one) * same(other)))
        self.assertIs(is_less(other, one), True)


class OverOne(unittest.TestCase):
    """Fractions brought over one divisor, on which steps and shares rest."""

    def test_the_least_number_that_all_divide(self):
        for some, below in [((), 1), (((0, 1),), 1), (((1, 2), (1, 3)), 6), (((1, 4), (5, 6), (-1, 4)), 12),
                            (((1, 10 ** 12), (1, 10 ** 6)), 10 ** 12)]:
            with self.subTest(some):
                self.assertEqual(shared_below(some), below)

    def test_numbers_over_it(self):
        self.assertEqual(aboves(((1, 4), (5, 6), (-1, 4), (0, 1)), 12), [3, 10, -3, 0])
        self.assertEqual(aboves(((1, 4), (5, 6)), 24), [6, 20])
        self.assertEqual(aboves((), 1), [])
