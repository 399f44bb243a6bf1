import itertools
import unittest
from fractions import Fraction

from pagewalks.solving import solved


class Solved(unittest.TestCase):
    """The equations on which the shares rest."""

    def test_one_unknown(self):
        self.assertEqual(solved([[3, 12]]), ([12], 3))
        self.assertEqual(solved([[5, 0]]), ([0], 5))

    def test_two_unknowns(self):
        self.assertEqual(solved([[2, 1, 5], [1, 3, 10]]), ([5, 15], 5))
        self.assertEqual(solved([[4, -1, 1], [-2, 3, 0]]), ([3, 2], 10))

    def test_no_unknown(self):
        self.assertEqual(solved([]), ([], 1))

    def test_what_was_solved_holds(self):
        for many in range(1, 7):
            factors = [[-(3 * one + 5 * other + one * other) % 7 for other in range(many)] for one in range(many)]
            for place in range(many):
                factors[place][place] = 10 ** 13 + place
            equations = [row + [(-1) ** place * 10 ** place] for place, row in enumerate(factors)]
            with self.subTest(many):
                found, below = solved(equations)
                for row in equations:
                    self.assertEqual(sum(Fraction(one * two, below) for one, two in zip(row, found)), row[-1])

    def test_below_is_the_determinant(self):
        factors = [[7, -1, -2], [-3, 9, -1], [0, -4, 5]]
        whole = 0
        for order in itertools.permutations(range(3)):
            turns = sum(one > other for one, other in itertools.combinations(order, 2))
            product = (-1) ** turns
            for place, chosen in enumerate(order):
                product *= factors[place][chosen]
            whole += product
        self.assertEqual(solved([row + [1] for row in factors])[1], whole)

    def test_what_is_handed_in_stays(self):
        equations = [[2, 1, 5], [1, 3, 10]]
        solved(equations)
        self.assertEqual(equations, [[2, 1, 5], [1, 3, 10]])
