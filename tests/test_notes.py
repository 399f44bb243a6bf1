import itertools
import unittest
from fractions import Fraction

from pagewalks.errors import NoText
from pagewalks.notes import read_fraction, read_web, show_fraction, show_web
from pagewalks.webs import is_web
from samples import CROWDED, FULL, WEBS, drawn

ALIKE = (3, ((0, 1), (0, 1), (2, 2)))
THIRTEEN = 9999999999999


class ShowWeb(unittest.TestCase):
    """[28] the text of a web."""

    def test_word_for_word(self):
        self.assertEqual(show_web((1, ())), "pages 1")
        self.assertEqual(show_web((12, ())), "pages 12")
        self.assertEqual(show_web((1, ((0, 0),))), "pages 1 0>0")
        self.assertEqual(show_web((3, ((0, 1), (0, 2), (2, 1)))), "pages 3 0>1 0>2 2>1")
        self.assertEqual(show_web(ALIKE), "pages 3 0>1 0>1 2>2")
        self.assertEqual(show_web((12, ((2, 10), (10, 2), (11, 11)))), "pages 12 2>10 10>2 11>11")

    def test_sixty_links(self):
        self.assertEqual(show_web((1, ((0, 0),) * 60)), "pages 1" + " 0>0" * 60)
        self.assertEqual(show_web(CROWDED), "pages 12 " + " ".join([f"{x}>{y}" for x, y in CROWDED[1]]))


class ShowFraction(unittest.TestCase):
    """[28] the text of a fraction."""

    def test_word_for_word(self):
        for fraction, text in [((0, 1), "0/1"), ((1, 1), "1/1"), ((1, 2), "1/2"), ((-1, 2), "-1/2"), ((-7, 1), "-7/1"),
                               ((10, 3), "10/3"), ((-100, 99), "-100/99"),
                               ((999999999989, 10 ** 12 - 1), "999999999989/999999999999"),
                               ((-THIRTEEN, 10 ** 13), "-9999999999999/10000000000000")]:
            with self.subTest(text):
                told = show_fraction(fraction)
                self.assertEqual(told, text)
                self.assertIsInstance(told, str)

    def test_numbers_of_every_length(self):
        for many in range(1, 200):
            with self.subTest(many):
                self.assertEqual(show_fraction((10 ** many, 10 ** many + 1)), f"1{'0' * many}/1{'0' * (many - 1)}1")
                self.assertEqual(show_fraction((1 - 10 ** many, 10 ** many)), f"-{'9' * many}/1{'0' * many}")

    def test_numbers_of_some_thousand_figures(self):
        # Python's own writing refuses more than 4,300 figures.
        for many in (4299, 4300, 4301, 9000, 20000):
            with self.subTest(many):
                self.assertEqual(show_fraction((10 ** many, 10 ** many - 1)), f"1{'0' * many}/{'9' * many}")
                self.assertEqual(show_fraction((-(10 ** many) - 7, 10 ** many)),
                                 f"-1{'0' * (many - 1)}7/1{'0' * many}")
                self.assertEqual(show_fraction((int("12345678901234567890") * 10 ** many + 3, 1)),
                                 f"12345678901234567890{'0' * (many - 1)}3/1")


class ReadFraction(unittest.TestCase):
    """[28] fractions read back; NoText of any other text."""

    def assert_refused(self, text):
        with self.assertRaises(NoText) as caught:
            read_fraction(text)
        self.assertIs(caught.exception.__class__, NoText)

    def test_what_was_written(self):
        for above, below in itertools.product(range(-25, 26), range(1, 26)):
            fraction = (Fraction(above, below).numerator, Fraction(above, below).denominator)
            with self.subTest(fraction):
                self.assertEqual(read_fraction(show_fraction(fraction)), fraction)
                self.assertIsInstance(read_fraction(show_fraction(fraction)), tuple)

    def test_word_for_word(self):
        for text, fraction in [("0/1", (0, 1)), ("1/2", (1, 2)), ("-1/2", (-1, 2)), ("12/1", (12, 1)),
                               ("-10/9", (-10, 9)), ("999999999999/999999999998", (10 ** 12 - 1, 10 ** 12 - 2))]:
            with self.subTest(text):
                self.assertEqual(read_fraction(text), fraction)

    def test_thirteen_figures_are_read_and_fourteen_refused(self):
        for fraction in [(THIRTEEN, 1), (-THIRTEEN, 1), (1, THIRTEEN), (-THIRTEEN, THIRTEEN - 1), (10 ** 12, THIRTEEN)]:
            with self.subTest(fraction):
                self.assertEqual(read_fraction(show_fraction(fraction)), fraction)
        for fraction in [(10 ** 13, 1), (-10 ** 13, 1), (1, 10 ** 13), (THIRTEEN, 10 ** 13), (10 ** 14 - 1, 10 ** 13)]:
            with self.subTest(fraction):
                self.assert_refused(show_fraction(fraction))
        for many in (13, 14, 100, 2990):
            self.assert_refused("1" + "0" * many + "/1")
            self.assert_refused("1/1" + "0" * many)

    def test_noughts_ahead(self):
        for text in ["00/1", "01/2", "1/02", "-01/2", "000/1", "0/01", "1/00", "0000000000001/2", "00000000000001/2"]:
            with self.subTest(text):
                self.assert_refused(text)

    def test_signs(self):
        for text in ["-0/1", "-0/-1", "0/-1", "+1/2", "1/+2", "1/-2", "-1/-2", "--1/2", "- 1/2", "1-/2", "1/2-", "-/1",
                     "-", "1/-", "-00/1"]:
            with self.subTest(text):
                self.assert_refused(text)

    def test_not_in_least_numbers(self):
        for text in ["2/4", "2/2", "-2/4", "0/2", "0/12", "6/3", "10/5", "-9/3", "9999999999999/9999999999999"]:
            with self.subTest(text):
                self.assert_refused(text)

    def test_by_nought(self):
        for text in ["1/0", "0/0", "-1/0", "5/0"]:
            with self.subTest(text):
                self.assert_refused(text)

    def test_other_texts(self):
        for text in ["", "/", "1", "1/", "/1", "1//2", "1/2/3", "1/2/", "/1/2", "1\\2", "1:2", "1,2", "a/b", "1/b", "a/2",
                     "1.0/2", "1e1/3", "1_0/3", "0x1/2", "one/two", "(1, 2)", "1>2", "~", "1/2" * 1000, "1" * 3000,
                     "/" * 3000, "pages 1"]:
            with self.subTest(text):
                self.assert_refused(text)

    def test_blanks_and_line_feeds_about(self):
        for text in ["1/2", "0/1", "-3/2"]:
            for sign in (" ", "\n"):
                for place in range(len(text) + 1):
                    with self.subTest(text, place=place, sign=sign):
                        self.assert_refused(text[:place] + sign + text[place:])

    def test_every_text_of_few_signs(self):
        for many in range(6):
            for signs in itertools.product("012/-", repeat=many):
                text = "".join(signs)
                above, between, below = text.partition("/")
                known = None
                if between and above.lstrip("-").isdigit() and below.isdigit() and int(below) > 0:
                    number = Fraction(int("0" + above.lstrip("-")) * (-1) ** above.count("-"), int(below))
                    if f"{number.numerator}/{number.denominator}" == text:
                        known = (number.numerator, number.denominator)
                if known is None:
                    self.assert_refused(text)
                else:
                    self.assertEqual(read_fraction(text), known)


class ReadWeb(unittest.TestCase):
    """[28] webs read back; NoText of any other text."""

    def assert_refused(self, text):
        with self.assertRaises(NoText) as caught:
            read_web(text)
        self.assertIs(caught.exception.__class__, NoText)

    def test_what_was_written(self):
        for name, web in WEBS.items():
            with self.subTest(name):
                self.assertEqual(read_web(show_web(web)), web)
        for pages in range(1, 13):
            self.assertEqual(read_web(show_web((pages, ()))), (pages, ()))
        for turn, web, leap, leaps in drawn(150, 28):
            with self.subTest(turn):
                self.assertEqual(read_web(show_web(web)), web)

    def test_word_for_word(self):
        self.assertEqual(read_web("pages 1"), (1, ()))
        self.assertEqual(read_web("pages 3 0>1 0>1 2>2"), ALIKE)
        self.assertEqual(read_web("pages 12 2>10 10>2 11>11"), (12, ((2, 10), (10, 2), (11, 11))))
        self.assertIs(is_web(read_web("pages 3 0>1 0>1 2>2")), True)

    def test_pages_too_many_or_none(self):
        for text in ["pages 0", "pages 13", "pages 99", "pages -1", "pages -0", "pages 1000000000000",
                     "pages 10000000000000", "pages " + "1" * 2000]:
            with self.subTest(text):
                self.assert_refused(text)

    def test_sixty_links_and_one_more(self):
        self.assertEqual(read_web("pages 1" + " 0>0" * 60), (1, ((0, 0),) * 60))
        self.assert_refused("pages 1" + " 0>0" * 61)
        self.assert_refused("pages 1" + " 0>0" * 700)
        self.assert_refused(show_web(FULL) + " 11>11")

    def test_links_out_of_order(self):
        for text in ["pages 2 1>0 0>1", "pages 3 0>2 0>1", "pages 3 0>1 0>2 0>1", "pages 12 10>0 2>0", "pages 12 0>10 0>2"]:
            with self.subTest(text):
                self.assert_refused(text)

    def test_links_to_pages_that_are_none(self):
        for text in ["pages 2 0>2", "pages 2 2>0", "pages 1 0>1", "pages 1 1>0", "pages 12 0>12", "pages 12 12>0",
                     "pages 2 -1>0", "pages 2 0>-1", "pages 2 0>10000000000000", "pages 2 0>1 0>9999999999999"]:
            with self.subTest(text):
                self.assert_refused(text)

    def test_noughts_ahead_and_signs(self):
        for text in ["pages 01", "pages 03 0>1", "pages 3 00>1", "pages 3 0>01", "pages 3 01>2", "pages +3", "pages 3 +0>1",
                     "pages 3 -0>1", "pages 3 0>-0", "pages 3 0>+1", "pages --1"]:
            with self.subTest(text):
                self.assert_refused(text)

    def test_a_sign_too_many_too_few_or_exchanged(self):
        text = "pages 12 0>1 2>11"
        for place in range(len(text) + 1):
            for sign in [" ", "\n", "-", ">", "x", "00", "  ", "/"]:
                more = text[:place] + sign + text[place:]
                with self.subTest(more):
                    self.assert_refused(more)
        for place in range(len(text)):
            for sign in ["", " ", "\n", "-", ">", "P", "_", "/", "<"]:
                other = text[:place] + sign + text[place + 1:]
                known = {"pages 2 0>1 2>11": None, "pages 12 0>1 2>1": (12, ((0, 1), (2, 1)))}.get(other)
                if other != text:
                    with self.subTest(other):
                        if known is None:
                            self.assert_refused(other)
                        else:
                            self.assertEqual(read_web(other), known)

    def test_other_texts(self):
        for text in ["", " ", "\n", "pages", "pages ", "pages  ", "page 1", "PAGES 1", "Pages 1", "pages1", "1", "pages\n1",
                     "pages x", "pages 1 ", " pages 1", "pages 1\n", "pages 2 0", "pages 2 >", "pages 2 0>", "pages 2 >0",
                     "pages 2 0>1>0", "pages 2 0>>1", "pages 2 0 > 1", "pages 2 0> 1", "pages 2 0>1,1>0", "pages 2,0>1",
                     "pages 2 0<1", "pages 2 0-1", "pages 2 a>b", "pages 2  0>1", "pages 2 0>1  1>0", "pages 2 0>1 ",
                     "pages 2\n0>1", "0>1", "pages 2 pages 2", "web pages 1", "(1, ())", "~" * 3000, " " * 3000, ">" * 3000,
                     "pages 1.0", "pages 1e0", "pages 1_0", "pages 0x1", "pages one"]:
            with self.subTest(text):
                self.assert_refused(text)
