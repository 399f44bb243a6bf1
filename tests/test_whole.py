import copy
import importlib
import inspect
import random
import unittest
from fractions import Fraction

from pagewalks.arrivals import first_to, steps_back, steps_to
from pagewalks.desk import Desk
from pagewalks.errors import NoLink, WalkError
from pagewalks.fractions import by, is_fraction, is_less, less, made, plus, times
from pagewalks.kinds import by_kinds, leaps_of, mixed
from pagewalks.links import gains, turned, with_link, without_link
from pagewalks.live import Live
from pagewalks.nearness import apart, steps_enough, walked
from pagewalks.notes import read_fraction, read_web, show_fraction, show_web
from pagewalks.passing import least_links
from pagewalks.shares import are_shares, ranked, shares
from pagewalks.steps import behind, ways
from pagewalks.webs import are_leaps, comes, even, is_leap, is_web, leads
from samples import FULL, WEBS, drawn, fractions, long_leaps, numbers, reckoned_behind, reckoned_shares, rising_leaps

HALF = (1, 2)
LONG = (123456789011, 999999999989)
WEB = (4, ((0, 1), (0, 1), (1, 2), (2, 0), (2, 2)))
LEAPS = rising_leaps(4)
INTERFACE = {
    "errors": {"WalkError": None, "NoLink": None, "NoKind": None, "NoText": None, "NoCommand": None},
    "fractions": {"is_fraction": 1, "made": 2, "plus": 2, "less": 2, "times": 2, "by": 2, "is_less": 2},
    "webs": {"is_web": 1, "is_leap": 1, "are_leaps": 2, "leads": 2, "comes": 2, "even": 1},
    "steps": {"ways": 4, "behind": 4},
    "shares": {"shares": 3, "are_shares": 4, "ranked": 3},
    "links": {"with_link": 3, "without_link": 3, "turned": 5, "gains": 4},
    "passing": {"least_links": 6},
    "live": {"Live": 2},
    "kinds": {"leaps_of": 2, "mixed": 1, "by_kinds": 3},
    "arrivals": {"steps_to": 4, "steps_back": 4, "first_to": 5},
    "nearness": {"apart": 2, "steps_enough": 2, "walked": 5},
    "notes": {"show_web": 1, "show_fraction": 1, "read_web": 1, "read_fraction": 1},
    "desk": {"Desk": 0},
}
# Every function with something to hand in, and the kind of what it tells.
CALLS = [
    (is_fraction, [(1, 2)], bool), (made, [2, 4], tuple), (plus, [(1, 2), (1, 3)], tuple),
    (less, [(1, 2), (1, 3)], tuple), (times, [(1, 2), (1, 3)], tuple), (by, [(1, 2), (1, 3)], tuple),
    (is_less, [(1, 2), (1, 3)], bool), (is_web, [WEB], bool), (is_leap, [HALF], bool),
    (are_leaps, [WEB, LEAPS], bool), (leads, [WEB, 0], list), (comes, [WEB, 2], list), (even, [WEB], tuple),
    (ways, [WEB, HALF, LEAPS, 2], tuple), (ways, [WEB, HALF, LEAPS, 3], tuple),
    (behind, [WEB, HALF, LEAPS, LEAPS], tuple), (shares, [WEB, HALF, LEAPS], tuple),
    (are_shares, [WEB, HALF, LEAPS, LEAPS], bool), (ranked, [WEB, HALF, LEAPS], list),
    (with_link, [WEB, 3, 0], tuple), (without_link, [WEB, 0, 1], tuple), (turned, [WEB, HALF, LEAPS, 3, 0], tuple),
    (gains, [WEB, HALF, LEAPS, 1], tuple), (least_links, [WEB, HALF, LEAPS, 0, 1, [3, 2, 0]], list),
    (least_links, [WEB, HALF, LEAPS, 3, 0, [3, 0]], list), (leaps_of, ["abca", "a"], tuple),
    (mixed, [[((1, 3), LEAPS), ((2, 3), even(WEB))]], tuple), (by_kinds, [WEB, HALF, "abca"], list),
    (steps_to, [WEB, HALF, LEAPS, 2], tuple), (steps_back, [WEB, HALF, LEAPS, 2], tuple),
    (first_to, [WEB, HALF, LEAPS, 2, 3], tuple), (apart, [LEAPS, even(WEB)], tuple), (steps_enough, [HALF, (1, 9)], int),
    (walked, [WEB, HALF, LEAPS, LEAPS, 3], tuple), (show_web, [WEB], str), (show_fraction, [HALF], str),
    (read_web, ["pages 2 0>1"], tuple), (read_fraction, ["1/2"], tuple),
]


class Interface(unittest.TestCase):
    """Everything is there under its name, with its arguments by their places."""

    def test_names_and_arguments(self):
        for module, names in INTERFACE.items():
            found = importlib.import_module("pagewalks." + module)
            for name, many in names.items():
                with self.subTest(module, name=name):
                    thing = getattr(found, name)
                    if many is not None:
                        self.assertEqual(len(inspect.signature(thing).parameters), many)

    def test_methods(self):
        for kind, names in [(Live, {"link": 2, "unlink": 2, "page": 0, "undo": 0, "web": 0, "shares": 0, "ranked": 0}),
                            (Desk, {"say": 1})]:
            for name, many in names.items():
                with self.subTest(kind.__name__, name=name):
                    self.assertEqual(len(inspect.signature(getattr(kind, name)).parameters), many + 1)

    def test_every_function_is_called_here(self):
        known = {name for names in INTERFACE.values() for name, many in names.items() if many and name != "Live"}
        self.assertEqual({each.__name__ for each, some, kind in CALLS}, known)


class HandedInAndTold(unittest.TestCase):
    """[1] nothing that is handed in is changed or kept; what is told is the asker's own."""

    def test_what_is_handed_in_stays_and_the_kind_of_what_is_told(self):
        for call, some, kind in CALLS:
            with self.subTest(call.__name__):
                kept = copy.deepcopy(some)
                told = call(*some)
                self.assertIs(told.__class__, kind)
                self.assertEqual(some, kept)

    def test_asked_again_the_same_whatever_became_of_lists(self):
        for call, some, kind in CALLS:
            with self.subTest(call.__name__):
                handed = copy.deepcopy(some)
                told = call(*handed)
                kept = copy.deepcopy(told)
                for each in handed:
                    if isinstance(each, list):
                        each.clear()
                self.assertEqual(told, kept)
                if isinstance(told, list):
                    told.append("more")
                    told.reverse()
                self.assertEqual(call(*copy.deepcopy(some)), kept)

    def test_a_told_list_is_none_that_was_handed_in(self):
        places = [0]
        told = least_links((2, ()), HALF, even((2, ())), 0, 1, places)
        self.assertEqual(told, [0])
        self.assertIsNot(told, places)

    def test_no_list_stands_in_what_is_told_but_at_its_top(self):
        def lists_within(thing):
            return isinstance(thing, list) or isinstance(thing, tuple) and any(lists_within(each) for each in thing)

        for call, some, kind in CALLS:
            told = call(*copy.deepcopy(some))
            if kind in (list, tuple):
                with self.subTest(call.__name__):
                    self.assertFalse(any(lists_within(each) for each in told))

    def test_refusals_are_walk_errors(self):
        for deed in [lambda: Live(WEB, HALF).link(9, 9), lambda: leaps_of("ab", "c"), lambda: read_web(""),
                     lambda: read_fraction(""), lambda: Desk().say(None), lambda: Desk().say("web "),
                     lambda: Desk().say("unlink 0 0")]:
            with self.assertRaises(WalkError):
                deed()


class HandedOn(unittest.TestCase):
    """[1] what was told here may be handed on."""

    def test_shares_as_leaps_and_rows(self):
        for turn, web, leap, leaps in drawn(40, 1):
            row = shares(web, leap, leaps)
            with self.subTest(turn):
                again = shares(web, LONG, row)
                self.assertEqual(again, reckoned_shares(web, LONG, row))
                self.assertIs(are_shares(web, LONG, row, again), True)
                self.assertEqual(behind(web, HALF, again, row), reckoned_behind(web, HALF, again, row))

    def test_rows_with_numbers_of_some_thousand_figures(self):
        web = (12, tuple([(here, there) for here, there in FULL[1] if here not in (8, 9)]))
        leaps = long_leaps(12)
        row = walked(web, LONG, leaps, turned(web, LONG, leaps, 3, 0), 40)
        long = walked(web, LONG, leaps, row, 40)
        self.assertTrue(max(below for above, below in long) > 10 ** 2500)
        self.assertEqual(sum(numbers(long)), 0)
        self.assertEqual(behind(web, LONG, leaps, long), reckoned_behind(web, LONG, leaps, long))
        gap = apart(long, row)
        self.assertEqual(Fraction(*gap), sum(abs(one - other) for one, other in zip(numbers(long), numbers(row))))
        whole = plus(long[0], times(row[1], less(gap, by(long[2], row[3]))))
        self.assertEqual(Fraction(*whole), Fraction(*long[0]) + Fraction(*row[1])
                         * (Fraction(*gap) - Fraction(*long[2]) / Fraction(*row[3])))
        self.assertIs(is_fraction(whole), True)
        self.assertIs(is_less(long[0], row[0]), Fraction(*long[0]) < Fraction(*row[0]))
        self.assertIs(are_leaps(web, long), False)
        self.assertIs(are_shares(web, LONG, leaps, long), False)
        self.assertIs(is_web(long), False)

    def test_such_numbers_are_written(self):
        above, below = 7 ** 9000, 2 ** 21000
        text = show_fraction((-above, below))
        top, bottom = text.split("/")
        for figures, number in [(top[1:], above), (bottom, below)]:
            read = 0
            for sign in figures:
                read = read * 10 + int(sign)
            self.assertEqual(read, number)
            self.assertNotEqual(figures[0], "0")

    def test_webs_and_leaps_from_call_to_call(self):
        web = read_web(show_web(with_link(WEB, 3, 1)))
        self.assertEqual(without_link(web, 3, 1), WEB)
        leaps = mixed([((1, 2), leaps_of("abca", "a")), ((1, 2), shares(web, HALF, even(web)))])
        self.assertIs(are_leaps(web, leaps), True)
        leap = read_fraction(show_fraction(shares(web, HALF, leaps)[0]))
        self.assertIs(is_leap(leap), True)
        for page in range(4):
            told = steps_to(web, leap, leaps, page)
            self.assertEqual(told[page], (0, 1))
            self.assertEqual(apart(told, told), (0, 1))
        self.assertEqual(Live(web, leap).shares(), shares(web, leap, even(web)))
        near = apart(walked(web, leap, leaps, leaps, 9), shares(web, leap, leaps))
        self.assertGreaterEqual(steps_enough(leap, near), 9)


def fraction_of(text):
    return Fraction(text)


def web_of(text):
    words = text.split(" ")
    return (int(words[1]), tuple([tuple([int(page) for page in word.split(">")]) for word in words[2:]]))


class OverADesk(unittest.TestCase):
    """[2] the whole, as a desk tells it."""

    def shares_of(self, desk):
        pages = web_of(desk.say("show"))[0]
        return [fraction_of(desk.say(f"share {page}")) for page in range(pages)]

    def all_of(self, desk):
        return (desk.say("show"), self.shares_of(desk), desk.say("rank"))

    def assert_shares_stay(self, desk, leap):
        web = web_of(desk.say("show"))
        row = self.shares_of(desk)
        self.assertEqual(sum(row), 1)
        self.assertTrue(all(each >= 0 for each in row))
        told = fractions(row)
        self.assertEqual(reckoned_behind(web, leap, even(web), told), told)
        ranking = [int(page) for page in desk.say("rank").split(" ")]
        self.assertEqual(ranking, sorted(range(web[0]), key=lambda page: (-row[page], page)))

    def assert_no_harm(self, desk, one, other):
        before = self.shares_of(desk)
        desk.say(f"link {one} {other}")
        self.assertGreaterEqual(self.shares_of(desk)[other], before[other])
        desk.say("undo")
        self.assertEqual(self.shares_of(desk), before)

    def is_ahead_with(self, desk, chosen, one, other):
        for place in chosen:
            self.assertEqual(desk.say(f"link {place} {one}"), "ok")
        row = self.shares_of(desk)
        for _ in chosen:
            self.assertEqual(desk.say("undo"), "ok")
        return row[one] > row[other]

    def assert_pass(self, desk, one, other):
        pages = web_of(desk.say("show"))[0]
        told = desk.say(f"pass {one} {other}")
        some = list(range(min(6, pages)))
        every = [[page for place, page in enumerate(some) if bits >> place & 1] for bits in range(2 ** len(some))]
        if told == "never":
            chosen = None
        else:
            chosen = [] if told == "now" else [int(page) for page in told.split(" ")]
            self.assertTrue(self.is_ahead_with(desk, chosen, one, other))
        for each in every:
            if chosen is None or (len(each), each) < (len(chosen), chosen):
                self.assertFalse(self.is_ahead_with(desk, each, one, other))

    def opened(self, web, leap):
        desk = Desk()
        self.assertEqual(desk.say("leap " + show_fraction(leap)), "ok")
        self.assertEqual(desk.say("web " + show_web(web)), "ok")
        return desk

    def test_every_sort_of_web(self):
        for name, web in WEBS.items():
            for leap in [(1, 1), HALF, (3, 20), LONG]:
                with self.subTest(name, leap=leap):
                    desk = self.opened(web, leap)
                    self.assert_shares_stay(desk, leap)
                    if len(web[1]) < 60:
                        self.assert_no_harm(desk, 0, web[0] - 1)
                        self.assert_no_harm(desk, web[0] - 1, 0)

    def test_a_link_more_never_harms_the_page_to_which_it_leads(self):
        for turn, web, leap, leaps in drawn(30, 2):
            desk = self.opened(web, leap)
            for one in range(web[0]):
                for other in range(web[0]):
                    with self.subTest(turn, one=one, other=other):
                        self.assert_no_harm(desk, one, other)

    def test_pass_brings_the_first_page_ahead_and_fewer_do_not(self):
        for turn, web, leap, leaps in drawn(40, 3):
            if web[0] > 1:
                with self.subTest(turn):
                    desk = self.opened(web, leap)
                    before = self.all_of(desk)
                    self.assert_pass(desk, turn % web[0], (turn + 1) % web[0])
                    self.assertEqual(self.all_of(desk), before)
                    self.assertEqual(desk.say("undo"), "none")

    def test_undone_all_is_as_ahead(self):
        source = random.Random(4)
        for leap in [HALF, LONG]:
            desk = self.opened((3, ((0, 1), (1, 2))), leap)
            seen = [self.all_of(desk)]
            for _ in range(60):
                pages = web_of(desk.say("show"))[0]
                one, other = source.randint(0, pages), source.randint(0, pages)
                try:
                    desk.say(source.choice([f"link {one} {other}"] * 3 + [f"unlink {one} {other}", "page"]))
                    seen.append(self.all_of(desk))
                    self.assert_shares_stay(desk, leap)
                except NoLink:
                    self.assertEqual(self.all_of(desk), seen[-1])
            self.assertGreater(len(seen), 20)
            for before in seen[-2::-1]:
                self.assertEqual(desk.say("undo"), "ok")
                self.assertEqual(self.all_of(desk), before)
            self.assertEqual(desk.say("undo"), "none")
