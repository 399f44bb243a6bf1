import string
import unittest
from fractions import Fraction

from pagewalks.errors import NoKind
from pagewalks.kinds import by_kinds, leaps_of, mixed
from pagewalks.shares import are_shares, shares
from pagewalks.webs import are_leaps, even
from samples import (CROWDED, FULL, WEBS, all_leaps, drawn, fractions, long_leaps, numbers, reckoned_shares,
                     rising_leaps)
from things import odd_things

HALF = (1, 2)
LONG = (123456789011, 999999999989)
# Parts for one, two, three and four leaps; some are 0, some of twelve figures.
PARTS = [
    fractions([1]),
    fractions([Fraction(1, 3), Fraction(2, 3)]),
    fractions([0, 1]),
    fractions([1, 0]),
    fractions([Fraction(1, 6), Fraction(1, 2), Fraction(1, 3)]),
    fractions([Fraction(1, 10 ** 12 - 1), 0, Fraction(10 ** 12 - 2, 10 ** 12 - 1)]),
    fractions([Fraction(1, 4), Fraction(1, 4), 0, Fraction(1, 2)]),
]


def reckoned_mix(some):
    rows = [[Fraction(*part) * each for each in numbers(row)] for part, row in some]
    return fractions([sum(column) for column in zip(*rows)])


def is_linked_throughout(web):
    return {here for here, there in web[1]} == set(range(web[0]))


class LeapsOf(unittest.TestCase):
    """[19] the leaps of a letter."""

    def test_a_letter_that_one_page_has(self):
        self.assertEqual(leaps_of("abc", "a"), ((1, 1), (0, 1), (0, 1)))
        self.assertEqual(leaps_of("abc", "b"), ((0, 1), (1, 1), (0, 1)))
        self.assertEqual(leaps_of("abc", "c"), ((0, 1), (0, 1), (1, 1)))
        self.assertEqual(leaps_of("z", "z"), ((1, 1),))

    def test_a_letter_that_several_pages_have(self):
        self.assertEqual(leaps_of("abab", "a"), ((1, 2), (0, 1), (1, 2), (0, 1)))
        self.assertEqual(leaps_of("bzzbz", "z"), ((0, 1), (1, 3), (1, 3), (0, 1), (1, 3)))

    def test_a_letter_that_all_pages_have(self):
        for pages in range(1, 13):
            with self.subTest(pages):
                self.assertEqual(leaps_of("q" * pages, "q"), even((pages, ())))

    def test_every_letter(self):
        for letter in string.ascii_lowercase:
            with self.subTest(letter):
                other = "b" if letter == "a" else "a"
                self.assertEqual(leaps_of(letter + other + letter, letter), ((1, 2), (0, 1), (1, 2)))

    def test_what_is_told_are_leaps(self):
        for kinds in ("a", "ab", "abcabcaab", "zyxwvutsrqpo", "aaaaaaaaaaab"):
            for letter in sorted(set(kinds)):
                with self.subTest(kinds, letter=letter):
                    self.assertIs(are_leaps((len(kinds), ()), leaps_of(kinds, letter)), True)

    def assert_refused(self, kinds, letter):
        with self.assertRaises(NoKind) as caught:
            leaps_of(kinds, letter)
        self.assertIs(caught.exception.__class__, NoKind)

    def test_a_letter_that_no_page_has(self):
        for letter in "cdz":
            self.assert_refused("abab", letter)
        self.assert_refused("a", "b")
        self.assert_refused("abcdefghijkl", "m")

    def test_texts_of_none_or_several_letters(self):
        for letter in ["", "ab", "ba", "aa", "abab", "a ", " a", "a\n", "\n", " ", "ab" * 1500]:
            with self.subTest(letter):
                self.assert_refused("abab", letter)

    def test_great_letters_and_other_signs(self):
        for letter in "ABZ019~`{@-'\"\\":
            with self.subTest(letter):
                self.assert_refused("abab", letter)
                self.assert_refused("azzz", letter)

    def test_other_things(self):
        for name, thing in odd_things():
            with self.subTest(name):
                self.assert_refused("abab", thing)
                self.assert_refused("abab", ["a", thing])
        for thing in [["a"], ("a",), {"a": 1}, {"a"}, b"a", 97, [], ()]:
            with self.subTest(thing):
                self.assert_refused("abab", thing)

    def test_a_thing_asked_of_is_not_changed(self):
        thing = ["a"]
        self.assert_refused("abab", thing)
        self.assertEqual(thing, ["a"])


class Mixed(unittest.TestCase):
    """[20] mixed leaps."""

    def test_one_tuple(self):
        for pages in (1, 2, 5, 12):
            for leaps in all_leaps(pages):
                with self.subTest(leaps):
                    self.assertEqual(mixed([((1, 1), leaps)]), leaps)

    def test_by_hand(self):
        self.assertEqual(mixed([((1, 2), ((1, 1), (0, 1))), ((1, 2), ((0, 1), (1, 1)))]), ((1, 2), (1, 2)))
        self.assertEqual(mixed([((1, 3), ((1, 2), (1, 2))), ((2, 3), ((1, 4), (3, 4)))]), ((1, 3), (2, 3)))
        self.assertEqual(mixed([((1, 6), ((1, 1), (0, 1), (0, 1))), ((1, 3), ((0, 1), (1, 1), (0, 1))),
                                ((1, 2), ((0, 1), (0, 1), (1, 1)))]), ((1, 6), (1, 3), (1, 2)))

    def test_parts_of_nought_and_one(self):
        one = ((1, 3), (2, 3))
        other = ((3, 4), (1, 4))
        self.assertEqual(mixed([((0, 1), one), ((1, 1), other)]), other)
        self.assertEqual(mixed([((1, 1), one), ((0, 1), other)]), one)
        self.assertEqual(mixed([((0, 1), other), ((1, 1), one), ((0, 1), other)]), one)

    def test_like_leaps(self):
        leaps = rising_leaps(5)
        self.assertEqual(mixed([((1, 3), leaps), ((2, 3), leaps)]), leaps)

    def test_unlike_leaps(self):
        for pages in range(1, 13):
            every = all_leaps(pages)
            for parts in PARTS:
                with self.subTest(pages=pages, parts=parts):
                    some = [(part, every[(turn + pages) % len(every)]) for turn, part in enumerate(parts)]
                    told = mixed(some)
                    self.assertIsInstance(told, tuple)
                    self.assertEqual(told, reckoned_mix(some))
                    self.assertIs(are_leaps((pages, ()), told), True)

    def test_many_tuples(self):
        some = [((1, 40), fractions([int(page == turn % 7) for page in range(7)])) for turn in range(40)]
        self.assertEqual(mixed(some), reckoned_mix(some))

    def test_what_was_mixed_may_be_mixed_again(self):
        one = mixed([((1, 3), long_leaps(4)), ((2, 3), rising_leaps(4))])
        some = [((1, 7), one), ((6, 7), even((4, ())))]
        self.assertEqual(mixed(some), reckoned_mix(some))

    def test_what_is_handed_in_stays(self):
        some = [((1, 3), rising_leaps(3)), ((2, 3), even((3, ())))]
        kept = list(some)
        told = mixed(some)
        self.assertEqual(some, kept)
        some.clear()
        self.assertEqual(told, reckoned_mix(kept))


class SharesMixed(unittest.TestCase):
    """[21] where each page has a link, the shares by mixed leaps are the shares by each, mixed likewise."""

    def assert_likewise(self, web, leap, some):
        told = shares(web, leap, mixed(some))
        self.assertEqual(told, mixed([(part, shares(web, leap, leaps)) for part, leaps in some]))
        self.assertIs(are_shares(web, leap, mixed(some), told), True)

    def test_every_sort_of_web(self):
        seen = 0
        for name, web in WEBS.items():
            if is_linked_throughout(web):
                seen += 1
                every = all_leaps(web[0])
                for turn, parts in enumerate(PARTS):
                    for leap in [(1, 1), HALF, LONG]:
                        with self.subTest(name, parts=parts, leap=leap):
                            self.assert_likewise(web, leap, [(part, every[(turn + place) % len(every)])
                                                             for place, part in enumerate(parts)])
        self.assertGreater(seen, 4)

    def test_drawn_webs_with_a_link_for_each_page(self):
        for turn, web, leap, leaps in drawn(60, 21):
            links = web[1] + tuple([(page, (page * turn + 1) % web[0]) for page in range(web[0])])
            with self.subTest(turn):
                self.assert_likewise((web[0], tuple(sorted(links))), leap,
                                     [((1, 4), leaps), ((1, 4), even(web)), ((1, 2), rising_leaps(web[0]))])

    def test_a_page_without_links_it_need_not_hold(self):
        web = (2, ((0, 0),))
        some = [((1, 2), fractions([1, 0])), ((1, 2), fractions([0, 1]))]
        self.assertNotEqual(shares(web, HALF, mixed(some)),
                            mixed([(part, shares(web, HALF, leaps)) for part, leaps in some]))


class ByKinds(unittest.TestCase):
    """[22] the shares by the leaps of each kind."""

    def assert_told(self, web, leap, kinds):
        told = by_kinds(web, leap, kinds)
        self.assertIsInstance(told, list)
        self.assertEqual([letter for letter, row in told], sorted(set(kinds)))
        for each in told:
            self.assertIsInstance(each, tuple)
            letter, row = each
            self.assertIsInstance(row, tuple)
            leaps = fractions([Fraction(int(kind == letter), kinds.count(letter)) for kind in kinds])
            self.assertEqual(row, reckoned_shares(web, leap, leaps))

    def test_by_hand(self):
        self.assertEqual(by_kinds((2, ((0, 1),)), HALF, "ab"), [("a", ((2, 3), (1, 3))), ("b", ((0, 1), (1, 1)))])
        self.assertEqual(by_kinds((2, ((0, 1),)), HALF, "ba"), [("a", ((0, 1), (1, 1))), ("b", ((2, 3), (1, 3)))])

    def test_one_kind(self):
        for name, web in WEBS.items():
            with self.subTest(name):
                self.assertEqual(by_kinds(web, HALF, "k" * web[0]), [("k", shares(web, HALF, even(web)))])

    def test_several_kinds(self):
        for kinds in ("zyxwvutsrqpo", "abcabcabcabc", "bbbbbbaaaaaa", "mzmammzmamqq"):
            for name, web in WEBS.items():
                for leap in [(1, 1), HALF, LONG]:
                    with self.subTest(name, kinds=kinds, leap=leap):
                        self.assert_told(web, leap, kinds[:web[0]])

    def test_drawn_webs(self):
        for turn, web, leap, leaps in drawn(60, 22):
            with self.subTest(turn):
                self.assert_told(web, leap, "".join(["pcxc"[(page * turn + turn // 3) % 4] for page in range(web[0])]))

    def test_a_told_list_is_the_askers_own(self):
        first = by_kinds(FULL, HALF, "abcabcabcabc")
        kept = list(first)
        first.reverse()
        first.append(("z", ()))
        self.assertEqual(by_kinds(FULL, HALF, "abcabcabcabc"), kept)
        self.assertNotEqual(by_kinds(CROWDED, HALF, "abcabcabcabc"), kept)
