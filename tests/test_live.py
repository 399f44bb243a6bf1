import random
import unittest

from pagewalks.errors import NoLink
from pagewalks.live import Live
from pagewalks.shares import ranked, shares
from pagewalks.webs import even, is_web
from samples import CROWDED, FULL, WEBS, numbers, reckoned_shares
from things import no_wholes

HALF = (1, 2)
LONG = (123456789011, 999999999989)
WEB = (3, ((0, 1), (0, 1), (1, 2), (2, 0)))


def no_pages(pages):
    return no_wholes() + [(str(each), each) for each in (-1, -2, -pages, pages, pages + 1, 99, 10 ** 70 - 1, -10 ** 69)]


class Deeds(unittest.TestCase):
    """[17] link, unlink and page."""

    def test_the_web_it_is_made_of(self):
        for name, web in WEBS.items():
            with self.subTest(name):
                self.assertEqual(Live(web, HALF).web(), web)

    def test_link(self):
        live = Live(WEB, HALF)
        self.assertIsNone(live.link(1, 0))
        self.assertEqual(live.web(), (3, ((0, 1), (0, 1), (1, 0), (1, 2), (2, 0))))
        live.link(0, 0)
        self.assertEqual(live.web(), (3, ((0, 0), (0, 1), (0, 1), (1, 0), (1, 2), (2, 0))))
        live.link(2, 2)
        self.assertEqual(live.web(), (3, ((0, 0), (0, 1), (0, 1), (1, 0), (1, 2), (2, 0), (2, 2))))

    def test_a_link_that_is_there_once_more(self):
        live = Live(WEB, HALF)
        live.link(0, 1)
        self.assertEqual(live.web(), (3, ((0, 1), (0, 1), (0, 1), (1, 2), (2, 0))))

    def test_unlink(self):
        live = Live(WEB, HALF)
        self.assertIsNone(live.unlink(1, 2))
        self.assertEqual(live.web(), (3, ((0, 1), (0, 1), (2, 0))))
        live.unlink(2, 0)
        self.assertEqual(live.web(), (3, ((0, 1), (0, 1))))

    def test_of_several_alike_links_one_goes(self):
        live = Live(WEB, HALF)
        live.unlink(0, 1)
        self.assertEqual(live.web(), (3, ((0, 1), (1, 2), (2, 0))))
        live.unlink(0, 1)
        self.assertEqual(live.web(), (3, ((1, 2), (2, 0))))
        with self.assertRaises(NoLink):
            live.unlink(0, 1)

    def test_page(self):
        live = Live(WEB, HALF)
        told = live.page()
        self.assertEqual(told, 3)
        self.assertIs(told.__class__, int)
        self.assertEqual(live.web(), (4, WEB[1]))
        self.assertEqual(live.page(), 4)
        self.assertEqual(live.web(), (5, WEB[1]))

    def test_a_new_page_may_be_linked(self):
        live = Live((1, ()), HALF)
        live.page()
        live.link(1, 0)
        live.link(0, 1)
        live.link(1, 1)
        self.assertEqual(live.web(), (2, ((0, 1), (1, 0), (1, 1))))
        live.unlink(1, 0)
        self.assertEqual(live.web(), (2, ((0, 1), (1, 1))))

    def test_twelve_pages_and_sixty_links(self):
        live = Live((1, ()), HALF)
        self.assertEqual([live.page() for _ in range(11)], list(range(1, 12)))
        for turn in range(60):
            live.link(turn % 12, turn * 5 % 12)
        self.assertIs(is_web(live.web()), True)
        self.assertEqual(live.web(), (12, tuple(sorted([(turn % 12, turn * 5 % 12) for turn in range(60)]))))

    def test_what_is_told_is_a_web(self):
        live = Live(WEB, HALF)
        for deed in [lambda: live.link(2, 1), live.page, lambda: live.unlink(0, 1), live.undo]:
            deed()
            self.assertIs(is_web(live.web()), True)

    def test_two_live_webs_of_the_same_web(self):
        one = Live(WEB, HALF)
        other = Live(WEB, (1, 3))
        one.link(2, 2)
        one.page()
        self.assertEqual(other.web(), WEB)
        self.assertIs(other.undo(), False)
        other.unlink(0, 1)
        self.assertEqual(one.web(), (4, ((0, 1), (0, 1), (1, 2), (2, 0), (2, 2))))
        self.assertEqual(other.shares(), shares((3, WEB[1][1:]), (1, 3), even(WEB)))
        self.assertEqual(one.shares(), shares(one.web(), HALF, even(one.web())))
        self.assertIs(other.undo(), True)
        self.assertEqual(other.web(), WEB)
        self.assertEqual(WEB, (3, ((0, 1), (0, 1), (1, 2), (2, 0))))


class Refused(unittest.TestCase):
    """[17] NoLink of what is no such deed; a refused one changes nothing."""

    def assert_refused(self, live, deed, *pages):
        before = live.web()
        with self.assertRaises(NoLink) as caught:
            deed(*pages)
        self.assertIs(caught.exception.__class__, NoLink)
        self.assertEqual(live.web(), before)

    def test_pages_that_are_none(self):
        for web in [WEB, (1, ((0, 0),)), (2, ((0, 0), (0, 1), (1, 0), (1, 1))), FULL]:
            live = Live(web, HALF)
            for deed in (live.link, live.unlink):
                for name, thing in no_pages(web[0]):
                    with self.subTest(name, web=web, deed=deed.__name__):
                        self.assert_refused(live, deed, thing, 0)
                        self.assert_refused(live, deed, 0, thing)
                        self.assert_refused(live, deed, thing, thing)
                        self.assert_refused(live, deed, (0, 0), thing)
            self.assertIs(live.undo(), False)

    def test_truths_are_no_pages_though_links_lead_there(self):
        web = (2, ((0, 0), (0, 1), (1, 0), (1, 1)))
        live = Live(web, HALF)
        for one, other in [(True, False), (0, True), (True, 0), (False, 1), (1, False), (False, False)]:
            with self.subTest(one=one, other=other):
                self.assert_refused(live, live.link, one, other)
                self.assert_refused(live, live.unlink, one, other)

    def test_a_link_that_is_not_there(self):
        live = Live(WEB, HALF)
        for one, other in [(0, 0), (0, 2), (1, 0), (1, 1), (2, 1), (2, 2)]:
            with self.subTest(one=one, other=other):
                self.assert_refused(live, live.unlink, one, other)
        for pages in (1, 12):
            live = Live((pages, ()), HALF)
            self.assert_refused(live, live.unlink, 0, 0)
        self.assertIs(live.undo(), False)

    def test_the_sixty_first_link(self):
        for web in (FULL, CROWDED):
            live = Live(web, HALF)
            self.assert_refused(live, live.link, 0, 0)
            self.assert_refused(live, live.link, 11, 11)
            self.assert_refused(live, live.link, 99, 99)
            self.assertIs(live.undo(), False)
        live = Live((1, ((0, 0),) * 59), HALF)
        live.link(0, 0)
        self.assert_refused(live, live.link, 0, 0)
        live.unlink(0, 0)
        live.link(0, 0)
        self.assert_refused(live, live.link, 0, 0)

    def test_the_thirteenth_page(self):
        live = Live((12, ()), HALF)
        self.assert_refused(live, live.page)
        self.assertIs(live.undo(), False)
        live = Live((11, ((0, 10),)), HALF)
        self.assertEqual(live.page(), 11)
        self.assert_refused(live, live.page)
        live.undo()
        self.assertEqual(live.page(), 11)

    def test_a_page_taken_back_is_none(self):
        live = Live(WEB, HALF)
        live.page()
        live.undo()
        self.assert_refused(live, live.link, 3, 0)
        self.assert_refused(live, live.link, 0, 3)

    def test_undo_behind_refused_deeds_takes_back_the_deed_before(self):
        live = Live((11, CROWDED[1][:55]), HALF)
        before = live.web()
        live.link(10, 10)
        after = live.web()
        live.page()
        self.assert_refused(live, live.page)
        self.assert_refused(live, live.link, 12, 0)
        self.assert_refused(live, live.unlink, 9, 9)
        self.assert_refused(live, live.unlink, True, None)
        self.assertIs(live.undo(), True)
        self.assertEqual(live.web(), after)
        self.assert_refused(live, live.unlink, 9, 9)
        self.assertIs(live.undo(), True)
        self.assertEqual(live.web(), before)
        self.assertIs(live.undo(), False)


class Undone(unittest.TestCase):
    """[17] undo() takes the last deed back that isn't taken back yet."""

    def test_none_is_left(self):
        live = Live(WEB, HALF)
        for _ in range(3):
            self.assertIs(live.undo(), False)
            self.assertEqual(live.web(), WEB)

    def test_each_kind_of_deed(self):
        live = Live(WEB, HALF)
        for deed in [lambda: live.link(0, 1), lambda: live.link(2, 2), lambda: live.unlink(0, 1),
                     lambda: live.unlink(2, 0), live.page]:
            deed()
            self.assertNotEqual(live.web(), WEB)
            self.assertIs(live.undo(), True)
            self.assertEqual(live.web(), WEB)
            self.assertIs(live.undo(), False)

    def test_several_behind_one_another(self):
        live = Live(WEB, HALF)
        seen = [live.web()]
        for deed in [lambda: live.link(0, 2), live.page, lambda: live.link(3, 3), lambda: live.unlink(0, 1),
                     lambda: live.unlink(0, 1), live.page, lambda: live.link(4, 0)]:
            deed()
            seen.append(live.web())
        for web in seen[-2::-1]:
            self.assertIs(live.undo(), True)
            self.assertEqual(live.web(), web)
        self.assertIs(live.undo(), False)
        self.assertEqual(live.web(), WEB)

    def test_an_undone_deed_done_and_undone_again(self):
        live = Live(WEB, HALF)
        for _ in range(4):
            live.link(1, 1)
            self.assertEqual(live.page(), 3)
            self.assertEqual(live.web(), (4, ((0, 1), (0, 1), (1, 1), (1, 2), (2, 0))))
            self.assertIs(live.undo(), True)
            self.assertIs(live.undo(), True)
            self.assertEqual(live.web(), WEB)
        self.assertIs(live.undo(), False)

    def test_a_deed_behind_an_undone_one(self):
        live = Live(WEB, HALF)
        live.link(0, 0)
        live.link(1, 1)
        live.undo()
        live.page()
        self.assertEqual(live.web(), (4, ((0, 0),) + WEB[1]))
        live.undo()
        self.assertEqual(live.web(), (3, ((0, 0),) + WEB[1]))
        live.undo()
        self.assertEqual(live.web(), WEB)
        self.assertIs(live.undo(), False)

    def test_a_deed_and_its_opposite_are_two_deeds(self):
        live = Live(WEB, HALF)
        live.link(1, 1)
        live.unlink(1, 1)
        self.assertEqual(live.web(), WEB)
        self.assertIs(live.undo(), True)
        self.assertEqual(live.web(), (3, ((0, 1), (0, 1), (1, 1), (1, 2), (2, 0))))
        self.assertIs(live.undo(), True)
        self.assertIs(live.undo(), False)

    def test_some_hundred_deeds(self):
        live = Live((2, ()), HALF)
        for _ in range(400):
            live.link(0, 1)
            live.unlink(0, 1)
        self.assertEqual([live.undo() for _ in range(801)], [True] * 800 + [False])
        self.assertEqual(live.web(), (2, ()))


class Kept(unittest.TestCase):
    """[18] shares and ranking of the web of now with even leaps."""

    def assert_kept(self, live, leap):
        web = live.web()
        self.assertEqual(live.shares(), reckoned_shares(web, leap, even(web)))
        row = numbers(live.shares())
        self.assertEqual(live.ranked(), sorted(range(web[0]), key=lambda page: (-row[page], page)))
        self.assertEqual(live.shares(), shares(web, leap, even(web)))
        self.assertEqual(live.ranked(), ranked(web, leap, even(web)))
        self.assertIsInstance(live.shares(), tuple)
        self.assertIsInstance(live.ranked(), list)

    def test_every_sort_of_web(self):
        for name, web in WEBS.items():
            for leap in [(1, 1), HALF, (3, 20), LONG]:
                with self.subTest(name, leap=leap):
                    self.assert_kept(Live(web, leap), leap)

    def test_by_hand(self):
        live = Live((1, ()), HALF)
        self.assertEqual(live.shares(), ((1, 1),))
        live.page()
        self.assertEqual(live.shares(), ((1, 2), (1, 2)))
        self.assertEqual(live.ranked(), [0, 1])
        live.link(0, 1)
        self.assertEqual(live.shares(), ((2, 5), (3, 5)))
        self.assertEqual(live.ranked(), [1, 0])
        live.undo()
        self.assertEqual(live.shares(), ((1, 2), (1, 2)))
        self.assertEqual(live.ranked(), [0, 1])

    def test_leaps_are_even_at_each_moment(self):
        live = Live((2, ((0, 0), (1, 1))), (1, 1))
        self.assertEqual(live.shares(), ((1, 2), (1, 2)))
        live.page()
        self.assertEqual(live.shares(), ((1, 3), (1, 3), (1, 3)))
        live.undo()
        self.assertEqual(live.shares(), ((1, 2), (1, 2)))

    def test_whatever_was_done(self):
        source = random.Random(18)
        for leap in [HALF, (3, 20), LONG]:
            live = Live((2, ((0, 1),)), leap)
            webs = [live.web()]
            for turn in range(70):
                pages = live.web()[0]
                one, other = source.randint(0, pages), source.randint(0, pages)
                deed = source.choice([lambda: live.link(one, other)] * 3 + [lambda: live.unlink(one, other), live.page])
                with self.subTest(turn, leap=leap):
                    if source.randint(0, 4) == 0:
                        self.assertIs(live.undo(), len(webs) > 1)
                        webs = webs[:-1] or webs
                    else:
                        try:
                            deed()
                            webs.append(live.web())
                        except NoLink:
                            pass
                    self.assertEqual(live.web(), webs[-1])
                    self.assert_kept(live, leap)

    def test_behind_refused_deeds(self):
        live = Live(FULL, LONG)
        kept = (live.shares(), live.ranked())
        for deed in [lambda: live.link(0, 0), lambda: live.unlink(12, 0), live.page]:
            with self.assertRaises(NoLink):
                deed()
            self.assertEqual((live.shares(), live.ranked()), kept)

    def test_a_told_list_changed_by_the_asker(self):
        live = Live(WEB, HALF)
        kept = list(live.ranked())
        told = live.ranked()
        told.reverse()
        told.append(9)
        self.assertEqual(live.ranked(), kept)
        self.assertEqual(live.web(), WEB)
        told = live.ranked()
        live.page()
        self.assertEqual(told, kept)
