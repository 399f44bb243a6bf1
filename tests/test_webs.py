import itertools
import unittest

from pagewalks.webs import are_leaps, comes, even, is_leap, is_web, leads
from things import deep_pair, deep_things, no_wholes, odd_things

MANY = tuple(sorted(itertools.product(range(8), range(8))))


class Asked(unittest.TestCase):
    """[4] whether a thing is a web, of anything."""

    def assert_told(self, thing, told):
        self.assertIs(is_web(thing), told)

    def test_webs_without_links(self):
        for pages in range(1, 13):
            with self.subTest(pages):
                self.assert_told((pages, ()), True)

    def test_numbers_of_pages_that_no_web_has(self):
        for pages in (0, 13, 14, -1, -12, 10 ** 70 - 1, 1 - 10 ** 70):
            with self.subTest(pages):
                self.assert_told((pages, ()), False)

    def test_webs_with_links(self):
        self.assert_told((2, ((0, 1),)), True)
        self.assert_told((3, ((0, 1), (0, 2), (1, 0), (2, 1))), True)
        self.assert_told((12, ((0, 11), (11, 0))), True)

    def test_a_link_to_the_page_itself(self):
        self.assert_told((1, ((0, 0),)), True)
        self.assert_told((12, ((3, 3), (11, 11))), True)

    def test_links_alike(self):
        self.assert_told((2, ((0, 1), (0, 1))), True)
        self.assert_told((2, ((0, 1), (0, 1), (0, 1), (1, 1), (1, 1))), True)

    def test_sixty_links_at_most(self):
        self.assert_told((8, MANY[:59]), True)
        self.assert_told((8, MANY[:60]), True)
        self.assert_told((8, MANY[:61]), False)
        self.assert_told((1, ((0, 0),) * 60), True)
        self.assert_told((1, ((0, 0),) * 61), False)
        self.assert_told((1, ((0, 0),) * 100000), False)

    def test_links_not_rising(self):
        self.assert_told((2, ((1, 0), (0, 1))), False)
        self.assert_told((3, ((0, 2), (0, 1))), False)
        self.assert_told((3, ((0, 1), (2, 0), (1, 2))), False)
        self.assert_told((3, ((0, 1), (0, 2), (0, 1))), False)
        self.assert_told((8, MANY[1:60] + MANY[:1]), False)

    def test_every_order_of_three_links(self):
        links = ((0, 2), (1, 0), (1, 1))
        for some in itertools.permutations(links):
            with self.subTest(some):
                self.assert_told((3, some), some == links)

    def test_links_of_pages_that_are_none(self):
        for link in [(0, 2), (2, 0), (2, 2), (-1, 0), (0, -1), (-1, -1), (1, 12), (0, 10 ** 69)]:
            with self.subTest(link):
                self.assert_told((2, (link,)), False)
        self.assert_told((12, ((0, 12),)), False)
        self.assert_told((12, ((12, 0),)), False)
        self.assert_told((2, ((0, 1), (1, 0), (1, 2))), False)

    def test_links_as_a_list(self):
        self.assert_told((2, []), False)
        self.assert_told((2, [(0, 1)]), False)
        self.assert_told((2, ([0, 1],)), False)
        self.assert_told((2, ((0, 1), [1, 0])), False)

    def test_links_of_one_or_three_things(self):
        for link in [(), (0,), (0, 1, 0), (0, 1, None), ((0, 1),)]:
            with self.subTest(link):
                self.assert_told((2, (link,)), False)
                self.assert_told((2, ((0, 0), link)), False)

    def test_webs_of_one_or_three_things(self):
        for thing in [(), (2,), (2, (), ()), (2, ((0, 1),), 1), ((2, ()),)]:
            with self.subTest(thing):
                self.assert_told(thing, False)

    def test_a_web_as_a_list_or_dict(self):
        self.assert_told([2, ()], False)
        self.assert_told([2, ((0, 1),)], False)
        self.assert_told({0: 2, 1: ()}, False)

    def test_pages_that_are_no_whole_number(self):
        for name, thing in no_wholes():
            with self.subTest(name):
                self.assert_told((thing, ()), False)

    def test_links_that_are_no_tuple_of_links(self):
        for name, thing in odd_things():
            if name != "empty tuple":
                with self.subTest(name):
                    self.assert_told((2, thing), False)
                    self.assert_told((2, (thing,)), False)
                    self.assert_told((2, ((0, 0), thing)), False)
                    self.assert_told((2, (thing, (1, 1))), False)

    def test_links_with_other_things_than_whole_numbers(self):
        for name, thing in no_wholes():
            with self.subTest(name):
                self.assert_told((2, ((thing, 1),)), False)
                self.assert_told((2, ((0, thing),)), False)
                self.assert_told((2, ((0, 0), (0, thing), (0, thing))), False)

    def test_other_things(self):
        for name, thing in odd_things():
            with self.subTest(name):
                self.assert_told(thing, False)

    def test_deep_things_are_not_compared_with_one_another(self):
        self.assert_told((2, (deep_pair(), deep_pair())), False)
        self.assert_told((2, ((deep_pair(), 0), (deep_pair(), 0))), False)
        self.assert_told((deep_pair(), (deep_pair(), deep_pair())), False)

    def test_a_thing_asked_of_is_not_changed(self):
        links = [(1, 0), (0, 1)]
        is_web((2, links))
        self.assertEqual(links, [(1, 0), (0, 1)])


class Followed(unittest.TestCase):
    """[5] to where links lead, and from where they come."""

    web = (4, ((0, 1), (0, 3), (0, 3), (1, 1), (2, 0), (2, 1), (2, 1), (3, 3)))

    def test_leads(self):
        self.assertEqual([leads(self.web, page) for page in range(4)], [[1, 3, 3], [1], [0, 1, 1], [3]])

    def test_comes(self):
        self.assertEqual([comes(self.web, page) for page in range(4)], [[2], [0, 1, 2, 2], [], [0, 0, 3]])

    def test_pages_without_links(self):
        for pages in range(1, 13):
            for page in range(pages):
                with self.subTest(pages=pages, page=page):
                    self.assertEqual(leads((pages, ()), page), [])
                    self.assertEqual(comes((pages, ()), page), [])

    def test_sixty_links(self):
        web = (8, MANY[:60])
        self.assertEqual(leads(web, 0), [0, 1, 2, 3, 4, 5, 6, 7])
        self.assertEqual(leads(web, 7), [0, 1, 2, 3])
        self.assertEqual(comes(web, 3), [0, 1, 2, 3, 4, 5, 6, 7])
        self.assertEqual(comes(web, 4), [0, 1, 2, 3, 4, 5, 6])
        self.assertEqual(leads((1, ((0, 0),) * 60), 0), [0] * 60)
        self.assertEqual(comes((1, ((0, 0),) * 60), 0), [0] * 60)

    def test_pages_of_two_figures(self):
        web = (12, ((2, 10), (9, 11), (10, 2), (10, 11), (11, 9), (11, 10)))
        self.assertEqual(leads(web, 10), [2, 11])
        self.assertEqual(leads(web, 11), [9, 10])
        self.assertEqual(comes(web, 10), [2, 11])
        self.assertEqual(comes(web, 11), [9, 10])

    def test_a_told_list_is_a_list(self):
        for told in (leads(self.web, 0), comes(self.web, 2)):
            self.assertIsInstance(told, list)

    def test_a_told_list_is_the_askers_own(self):
        for follow in (leads, comes):
            for page in range(4):
                with self.subTest(follow.__name__, page=page):
                    first = follow(self.web, page)
                    kept = list(first)
                    second = follow(self.web, page)
                    first.append(7)
                    first.insert(0, 9)
                    self.assertEqual(second, kept)
                    self.assertEqual(follow(self.web, page), kept)


class Leap(unittest.TestCase):
    """[6] whether a thing is a leap, of anything."""

    def assert_told(self, thing, told):
        self.assertIs(is_leap(thing), told)

    def test_leaps(self):
        for thing in [(1, 1), (1, 2), (3, 20), (1, 10 ** 12 - 1), (10 ** 12 - 2, 10 ** 12 - 1), (1, 10 ** 69)]:
            with self.subTest(thing):
                self.assert_told(thing, True)

    def test_nought_and_below(self):
        for thing in [(0, 1), (-1, 1), (-1, 2), (-(10 ** 12) + 1, 10 ** 12)]:
            with self.subTest(thing):
                self.assert_told(thing, False)

    def test_above_one(self):
        for thing in [(2, 1), (3, 2), (10 ** 12, 10 ** 12 - 1), (10 ** 69, 1)]:
            with self.subTest(thing):
                self.assert_told(thing, False)

    def test_no_fractions(self):
        for thing in [(2, 2), (2, 4), (0, 2), (1, 0), (1, -1), (-1, -2), (1,), (1, 2, 3), [1, 2], [1, 1]]:
            with self.subTest(thing):
                self.assert_told(thing, False)

    def test_other_things_than_whole_numbers_within(self):
        for name, thing in no_wholes():
            with self.subTest(name):
                self.assert_told((thing, 2), False)
                self.assert_told((1, thing), False)

    def test_other_things(self):
        for name, thing in odd_things():
            with self.subTest(name):
                self.assert_told(thing, False)


class Leaps(unittest.TestCase):
    """[6] whether a thing is leaps, of anything; even leaps."""

    web = (3, ((0, 1),))

    def assert_told(self, thing, told):
        self.assertIs(are_leaps(self.web, thing), told)

    def test_even_leaps(self):
        for pages in range(1, 13):
            with self.subTest(pages):
                web = (pages, ())
                self.assertEqual(even(web), ((1, pages),) * pages)
                self.assertIsInstance(even(web), tuple)
                self.assertIs(are_leaps(web, even(web)), True)

    def test_links_change_no_even_leaps(self):
        self.assertEqual(even((2, ((0, 1), (1, 1)))), ((1, 2), (1, 2)))

    def test_one_page_alone(self):
        self.assert_told(((1, 1), (0, 1), (0, 1)), True)
        self.assert_told(((0, 1), (1, 1), (0, 1)), True)
        self.assert_told(((0, 1), (0, 1), (1, 1)), True)
        self.assertIs(are_leaps((1, ()), ((1, 1),)), True)
        self.assertIs(are_leaps((1, ()), ((1, 2),)), False)

    def test_uneven_ones(self):
        self.assert_told(((1, 2), (1, 3), (1, 6)), True)
        self.assert_told(((1, 2), (1, 2), (0, 1)), True)
        self.assert_told(((1, 10 ** 12 - 1), (0, 1), (10 ** 12 - 2, 10 ** 12 - 1)), True)
        self.assert_told(((1, 10 ** 39), (10 ** 39 - 2, 10 ** 39), (1, 10 ** 39)), False)
        self.assert_told(((1, 10 ** 39), (10 ** 39 - 1, 10 ** 39), (0, 1)), True)

    def test_together_more_or_less_than_one(self):
        self.assert_told(((1, 2), (1, 3), (1, 5)), False)
        self.assert_told(((1, 2), (1, 3), (1, 7)), False)
        self.assert_told(((0, 1), (0, 1), (0, 1)), False)
        self.assert_told(((1, 1), (1, 1), (1, 1)), False)
        self.assert_told(((1, 1), (1, 10 ** 12 - 1), (0, 1)), False)
        self.assert_told(((1, 1), (1, 1), (0, 1)), False)

    def test_one_too_few_or_too_many(self):
        self.assert_told(((1, 2), (1, 2)), False)
        self.assert_told(((1, 2), (1, 2), (0, 1), (0, 1)), False)
        self.assert_told(((1, 4),) * 4, False)
        self.assert_told((), False)

    def test_a_share_below_nought(self):
        self.assert_told(((-1, 2), (1, 1), (1, 2)), False)
        self.assert_told(((1, 1), (1, 1), (-1, 1)), False)
        self.assert_told(((2, 1), (-1, 1), (0, 1)), False)

    def test_a_list_is_none(self):
        self.assert_told([(1, 2), (1, 2), (0, 1)], False)
        self.assert_told([(1, 3), (1, 3), (1, 3)], False)
        self.assert_told(((1, 3), [1, 3], (1, 3)), False)

    def test_shares_that_are_no_fractions(self):
        self.assert_told(((2, 4), (1, 2), (0, 1)), False)
        self.assert_told(((1, 2), (1, 2), (0, 2)), False)
        self.assert_told(((-1, -2), (1, 2), (0, 1)), False)
        self.assert_told(((1, 2), (1, 2), (0, 0)), False)
        self.assert_told(((True, 1), (0, 1), (0, 1)), False)
        self.assert_told(((1, True), (0, 1), (0, 1)), False)
        self.assert_told(((1, 1), (False, 1), (0, 1)), False)
        self.assert_told((1, 0, 0), False)

    def test_other_things(self):
        for name, thing in odd_things():
            with self.subTest(name):
                self.assert_told(thing, False)
                self.assert_told(((1, 1), (0, 1), thing), False)
                self.assert_told((thing, (1, 1), (0, 1)), False)

    def test_deep_things(self):
        for name, thing in deep_things():
            with self.subTest(name):
                self.assert_told((thing,) * 3, False)
                self.assert_told(((thing, 1), (1, thing), (0, 1)), False)

    def test_a_thing_asked_of_is_not_changed(self):
        thing = [(1, 2), (1, 2), (0, 1)]
        are_leaps(self.web, thing)
        self.assertEqual(thing, [(1, 2), (1, 2), (0, 1)])
