import unittest

from pagewalks.desk import Desk
from pagewalks.errors import NoCommand, NoLink, NoText
from pagewalks.links import with_link
from pagewalks.notes import show_fraction, show_web
from pagewalks.passing import least_links
from pagewalks.shares import ranked, shares
from pagewalks.webs import even
from samples import CROWDED, FULL, WEBS, drawn
from things import deep_things, odd_things

HALF = (1, 2)
TEXT = "pages 3 0>1 0>2 2>1"
TWELVE = 999999999989


def desk_of(*rows):
    desk = Desk()
    for words in rows:
        desk.say(words)
    return desk


class Said(unittest.TestCase):
    """[29] each row of words and its answer."""

    def assert_said(self, desk, *pairs):
        for words, answer in pairs:
            told = desk.say(words)
            self.assertEqual((words, told), (words, answer))
            self.assertIsInstance(told, str)

    def test_at_first_one_page_without_links_and_a_half(self):
        self.assert_said(Desk(), ("show", "pages 1"), ("share 0", "1/1"), ("rank", "0"), ("undo", "none"))
        # The leap shows in the shares: by a half they are these.
        self.assert_said(Desk(), ("page", "1"), ("link 0 1", "ok"), ("share 0", "2/5"), ("share 1", "3/5"))

    def test_web(self):
        desk = Desk()
        self.assert_said(desk, ("web " + TEXT, "ok"), ("show", TEXT), ("web pages 12", "ok"), ("show", "pages 12"))
        for web in WEBS.values():
            self.assert_said(desk, ("web " + show_web(web), "ok"), ("show", show_web(web)))

    def test_web_keeps_the_leap_and_forgets_what_was_done(self):
        desk = desk_of("leap 1/4", "page", "link 0 1")
        self.assert_said(desk, ("web pages 2 0>1", "ok"), ("undo", "none"), ("share 0", "4/11"), ("show", "pages 2 0>1"))

    def test_leap(self):
        desk = desk_of("web pages 2 0>1")
        self.assert_said(desk, ("share 0", "2/5"), ("leap 1/4", "ok"), ("share 0", "4/11"), ("leap 1/1", "ok"),
                         ("share 0", "1/2"), ("leap 1/2", "ok"), ("share 0", "2/5"))
        self.assert_said(desk, ("leap 1/9999999999999", "ok"),
                         ("share 0", show_fraction(shares((2, ((0, 1),)), (1, 9999999999999), even((2, ())))[0])))

    def test_leap_keeps_the_web_of_now_and_forgets_what_was_done(self):
        desk = desk_of("web pages 2 0>1", "link 1 1", "page")
        self.assert_said(desk, ("leap 1/4", "ok"), ("show", "pages 3 0>1 1>1"), ("undo", "none"),
                         ("show", "pages 3 0>1 1>1"))

    def test_link_and_unlink(self):
        self.assert_said(desk_of("web " + TEXT), ("link 1 0", "ok"), ("show", "pages 3 0>1 0>2 1>0 2>1"),
                         ("link 1 0", "ok"), ("show", "pages 3 0>1 0>2 1>0 1>0 2>1"), ("link 2 2", "ok"),
                         ("show", "pages 3 0>1 0>2 1>0 1>0 2>1 2>2"), ("unlink 1 0", "ok"),
                         ("show", "pages 3 0>1 0>2 1>0 2>1 2>2"), ("unlink 0 1", "ok"), ("unlink 0 2", "ok"),
                         ("show", "pages 3 1>0 2>1 2>2"))

    def test_numbers_of_two_figures(self):
        self.assert_said(desk_of("web pages 12"), ("link 10 11", "ok"), ("link 9 10", "ok"), ("link 2 1", "ok"),
                         ("show", "pages 12 2>1 9>10 10>11"), ("unlink 10 11", "ok"), ("show", "pages 12 2>1 9>10"),
                         ("rank", "1 10 0 2 3 4 5 6 7 8 9 11"))

    def test_page(self):
        desk = Desk()
        self.assert_said(desk, *[("page", str(number)) for number in range(1, 12)])
        self.assert_said(desk, ("show", "pages 12"))

    def test_undo(self):
        desk = desk_of("web " + TEXT)
        self.assert_said(desk, ("undo", "none"), ("link 0 0", "ok"), ("page", "3"), ("unlink 2 1", "ok"),
                         ("undo", "ok"), ("show", "pages 4 0>0 0>1 0>2 2>1"), ("undo", "ok"),
                         ("show", "pages 3 0>0 0>1 0>2 2>1"), ("undo", "ok"), ("show", TEXT), ("undo", "none"),
                         ("undo", "none"), ("show", TEXT), ("page", "3"), ("undo", "ok"), ("undo", "none"))

    def test_asking_is_no_deed(self):
        desk = desk_of("web " + TEXT, "page")
        for words in ("show", "share 0", "rank", "pass 0 1"):
            desk.say(words)
        self.assert_said(desk, ("undo", "ok"), ("show", TEXT), ("undo", "none"))

    def test_share_and_rank(self):
        self.assert_said(desk_of("web " + TEXT), ("share 0", "8/33"), ("share 1", "5/11"), ("share 2", "10/33"),
                         ("rank", "1 2 0"))
        for turn, web, leap, leaps in drawn(40, 29):
            desk = desk_of("leap " + show_fraction(leap), "web " + show_web(web))
            row = shares(web, leap, even(web))
            self.assert_said(desk, *[(f"share {page}", show_fraction(row[page])) for page in range(web[0])])
            self.assert_said(desk, ("rank", " ".join([str(page) for page in ranked(web, leap, even(web))])))

    def test_pass(self):
        self.assert_said(desk_of("web pages 2"), ("pass 0 1", "0"), ("pass 1 0", "0"))
        self.assert_said(desk_of("web pages 2 0>1"), ("pass 1 0", "now"), ("pass 0 1", "0 1"))
        self.assert_said(desk_of("web pages 2", "leap 1/1"), ("pass 0 1", "never"), ("pass 1 0", "never"))
        self.assert_said(desk_of("web " + TEXT), ("pass 0 1", "0 1"), ("pass 1 0", "now"), ("pass 2 0", "now"))

    def test_pass_with_the_least_six_pages_by_even_leaps(self):
        # Page 11 is ahead of page 10 by so much that all the least six pages must bring a link; then by too much.
        six = (12, tuple(sorted([(page, 9) for page in range(6)] + [(6, 11), (7, 11), (8, 11), (8, 9)])))
        seven = with_link(without(six, 8, 9), 9, 9)
        for web, answer in [(six, "0 1 2 3 4 5"), (seven, "never")]:
            self.assertEqual(least_links(web, HALF, even(web), 10, 11, [0, 1, 2, 3, 4, 5]),
                             None if answer == "never" else [0, 1, 2, 3, 4, 5])
            self.assert_said(desk_of("web " + show_web(web)), ("pass 10 11", answer), ("pass 11 10", "now"))

    def test_pass_as_least_links_tells(self):
        seen = {}
        for turn, web, leap, leaps in drawn(60, 290):
            if web[0] > 1:
                one = turn % web[0]
                other = (one + 1 + turn // 5 % (web[0] - 1)) % web[0]
                told = least_links(web, leap, even(web), one, other, list(range(min(6, web[0]))))
                answer = "never" if told is None else " ".join([str(page) for page in told]) or "now"
                with self.subTest(turn):
                    self.assert_said(desk_of("leap " + show_fraction(leap), "web " + show_web(web)),
                                     (f"pass {one} {other}", answer))
                seen[answer if answer in ("never", "now") else len(told)] = True
        self.assertLessEqual({"never", "now", 1, 2}, set(seen))

    def test_pass_in_a_web_of_sixty_links_is_not_refused(self):
        for web in (FULL, CROWDED):
            desk = desk_of("web " + show_web(web))
            for one, other in [(0, 11), (11, 0), (5, 3)]:
                told = least_links(web, HALF, even(web), one, other, [0, 1, 2, 3, 4, 5])
                answer = "never" if told is None else " ".join([str(page) for page in told]) or "now"
                self.assert_said(desk, (f"pass {one} {other}", answer))
            self.assert_said(desk, ("show", show_web(web)))

    def test_two_desks(self):
        one = desk_of("web pages 2 0>1")
        other = desk_of("web pages 2 0>1", "leap 1/4")
        one.say("link 1 0")
        self.assert_said(other, ("show", "pages 2 0>1"), ("undo", "none"), ("share 0", "4/11"))
        other.say("page")
        self.assert_said(one, ("show", "pages 2 0>1 1>0"), ("share 0", "1/2"), ("undo", "ok"), ("share 0", "2/5"))
        self.assert_said(Desk(), ("show", "pages 1"), ("undo", "none"))


def without(web, one, other):
    links = list(web[1])
    links.remove((one, other))
    return (web[0], tuple(links))


class Refused(unittest.TestCase):
    """[29] NoCommand, NoText, NoLink; what is refused changes nothing."""

    def setUp(self):
        self.desk = desk_of("leap 1/4", "web " + TEXT, "link 1 0", "page")

    def tearDown(self):
        """Whatever was refused: the web, the leap and what can be undone are as they were."""
        said = [self.desk.say(words) for words in ("show", "share 0", "rank", "undo", "show", "undo", "show", "undo")]
        now = (4, ((0, 1), (0, 2), (1, 0), (2, 1)))
        self.assertEqual(said, [
            "pages 4 0>1 0>2 1>0 2>1", show_fraction(shares(now, (1, 4), even(now))[0]),
            " ".join([str(page) for page in ranked(now, (1, 4), even(now))]),
            "ok", "pages 3 0>1 0>2 1>0 2>1", "ok", TEXT, "none"])

    def assert_refused(self, refusal, words, desk=None):
        desk = desk or self.desk
        before = desk.say("show")
        with self.assertRaises(refusal) as caught:
            desk.say(words)
        self.assertIs(caught.exception.__class__, refusal)
        self.assertEqual(desk.say("show"), before)

    def test_what_is_no_text(self):
        for name, thing in odd_things():
            with self.subTest(name):
                self.assert_refused(NoCommand, thing)
        for thing in [b"show", ["show"], ("show",), {"show": 1}, {"show"}, ["link", "0", "1"], ("web ", "pages 1"), 0, 1]:
            with self.subTest(thing):
                self.assert_refused(NoCommand, thing)
        for name, thing in deep_things():
            with self.subTest(name):
                self.assert_refused(NoCommand, ("show", thing))

    def test_none_of_the_rows(self):
        for words in ["", " ", "\n", "web", "leap", "help", "link", "unlink", "share", "pass", "shares", "ranked", "pages",
                      "pages 3", "0", "0>1", "1/2", "ok", "none", "weblink 0 1", "webpages 1", "leap1/2", "pagepage",
                      "web\npages 1", "leap\n1/2", "now 0 1", "~" * 3000, " " * 3000, "say show", "web_pages 1"]:
            with self.subTest(words):
                self.assert_refused(NoCommand, words)

    def test_great_letters(self):
        for words in ["Show", "SHOW", "Link 0 1", "LINK 0 1", "Web pages 1", "WEB pages 1", "Leap 1/2", "Undo", "PAGE",
                      "Share 0", "Rank", "Pass 0 1", "linK 0 1"]:
            with self.subTest(words):
                self.assert_refused(NoCommand, words)

    def test_a_word_too_many_or_too_few(self):
        for words in ["link", "link 0", "link 0 1 2", "unlink", "unlink 0", "unlink 0 1 2", "page 1", "page 0", "undo 1",
                      "undo undo", "show 0", "show web", "share", "share 0 1", "rank 0", "pass", "pass 0", "pass 0 1 2",
                      "page page", "rank rank"]:
            with self.subTest(words):
                self.assert_refused(NoCommand, words)

    def test_blanks_and_line_feeds_about(self):
        for words in ["link 0 1", "unlink 0 1", "share 0", "pass 0 1", "page", "undo", "show", "rank"]:
            for place in range(len(words) + 1):
                for sign in (" ", "\n"):
                    other = words[:place] + sign + words[place:]
                    with self.subTest(other):
                        self.assert_refused(NoCommand, other)
        for words in [" web pages 1", "\nweb pages 1", "we b pages 1", " leap 1/2", "le ap 1/2", "\nleap 1/2"]:
            with self.subTest(words):
                self.assert_refused(NoCommand, words)

    def test_numbers_that_are_none(self):
        for number in ["00", "01", "-1", "-0", "+1", "100", "000", "012", "1.0", "a", "0x", "1_", "--", "-", "0>1", "1/1",
                       "", "1" * 2000, "\n1", "1\n", "one"]:
            for words in [f"link {number} 1", f"link 1 {number}", f"unlink {number} 1", f"unlink 1 {number}",
                          f"share {number}", f"pass {number} 0", f"pass 0 {number}", f"link {number} {number}"]:
                with self.subTest(words):
                    self.assert_refused(NoCommand, words)

    def test_texts_that_are_none_behind_web(self):
        for text in ["", " ", "pages", "pages 0", "pages 13", "pages 01", "pages 2 1>0 0>1", "pages 2 0>2", " pages 2",
                     "pages 2 ", "pages 2\n", "pages 1" + " 0>0" * 61, "1/2", "show", "web pages 1", "pages 2 00>1", "0",
                     "PAGES 2", "\npages 2"]:
            with self.subTest(text):
                self.assert_refused(NoText, "web " + text)

    def test_texts_that_are_none_behind_leap(self):
        for text in ["", " ", "1", "1/", "/2", "2/4", "1/0", "01/2", "1/02", " 1/2", "1/2 ", "1/2\n", "+1/2", "1/-2", "-0/1",
                     "1/10000000000000", "0.5", "leap 1/2", "pages 1", "1 / 2", "a/b", "1/2/3"]:
            with self.subTest(text):
                self.assert_refused(NoText, "leap " + text)

    def test_fractions_that_are_no_leap(self):
        for text in ["0/1", "2/1", "3/2", "-1/2", "-1/1", f"{TWELVE + 1}/{TWELVE}", f"-1/{TWELVE}", "9999999999999/1"]:
            with self.subTest(text):
                self.assert_refused(NoText, "leap " + text)

    def test_pages_that_are_none(self):
        for number in (4, 5, 9, 10, 12, 99):
            for words in [f"link {number} 0", f"link 0 {number}", f"unlink {number} 0", f"unlink 0 {number}",
                          f"share {number}", f"pass {number} 0", f"pass 0 {number}", f"pass {number} {number}"]:
                with self.subTest(words):
                    self.assert_refused(NoLink, words)

    def test_links_that_are_not_there(self):
        for words in ["unlink 0 0", "unlink 1 1", "unlink 1 2", "unlink 3 0", "unlink 3 3"]:
            with self.subTest(words):
                self.assert_refused(NoLink, words)

    def test_like_pages_behind_pass(self):
        for page in range(4):
            with self.subTest(page):
                self.assert_refused(NoLink, f"pass {page} {page}")
        self.assert_refused(NoLink, "pass 0 0", Desk())
        self.assert_refused(NoLink, "pass 0 1", Desk())

    def test_more_than_sixty_links(self):
        for web in (FULL, CROWDED, (1, ((0, 0),) * 60)):
            desk = desk_of("web " + show_web(web))
            self.assert_refused(NoLink, "link 0 0", desk)
            self.assertEqual(desk.say("undo"), "none")
            desk.say(f"unlink {web[1][0][0]} {web[1][0][1]}")
            self.assertEqual(desk.say("link 0 0"), "ok")
            self.assert_refused(NoLink, "link 0 0", desk)

    def test_more_than_twelve_pages(self):
        desk = desk_of("web pages 11")
        self.assertEqual(desk.say("page"), "11")
        self.assert_refused(NoLink, "page", desk)
        self.assertEqual(desk.say("undo"), "ok")
        self.assertEqual(desk.say("page"), "11")

    def test_of_two_refusals_the_one_told_first(self):
        for words in ["link 99 00", "link 00 99", "link 99 100", "unlink 99 -1", "share 099", "pass 99 099", "pass 0 0 0",
                      "pass 7 07", "link 99 99 99", "share 99 99", "page 99", "web", "leap"]:
            with self.subTest(words):
                self.assert_refused(NoCommand, words)
        full = desk_of("web " + show_web(FULL))
        for words in ["link 0 00", "page 0", "link 0"]:
            with self.subTest(words):
                self.assert_refused(NoCommand, words, full)

    def test_behind_a_refused_leap_the_leap_is_as_it_was(self):
        desk = desk_of("web pages 2 0>1", "leap 1/4")
        for words in ["leap 0/1", "leap 2/1", "leap 1/0", "leap x", "web pages 0"]:
            with self.subTest(words):
                self.assert_refused(NoText, words, desk)
                self.assertEqual(desk.say("share 0"), "4/11")
        desk.say("web pages 2 0>1")
        self.assertEqual(desk.say("share 0"), "4/11")
