"""A desk: it keeps a live web, is told rows of words and answers each by a text."""

from pagewalks.errors import NoCommand, NoLink, NoText
from pagewalks.live import Live
from pagewalks.notes import are_figures, read_fraction, read_web, show_fraction, show_web
from pagewalks.passing import least_links
from pagewalks.webs import even, is_leap

DONE = "ok"
MOST_PLACES = 6


def parted(pages):
    return " ".join([str(page) for page in pages])


def check_page(live, page):
    if page >= live.web()[0]:
        raise NoLink("the web has no such page")


def say_link(live, pages):
    live.link(pages[0], pages[1])
    return DONE


def say_unlink(live, pages):
    live.unlink(pages[0], pages[1])
    return DONE


def say_page(live, pages):
    return str(live.page())


def say_undo(live, pages):
    return DONE if live.undo() else "none"


def say_show(live, pages):
    return show_web(live.web())


def say_share(live, pages):
    check_page(live, pages[0])
    return show_fraction(live.shares()[pages[0]])


def say_rank(live, pages):
    return parted(live.ranked())


def say_pass(live, pages):
    check_page(live, max(pages))
    if pages[0] == pages[1]:
        raise NoLink("a page can't pass itself")
    web = live.web()
    places = list(range(min(MOST_PLACES, web[0])))
    chosen = least_links(web, live.leap, even(web), pages[0], pages[1], places)
    if chosen is None:
        return "never"
    return parted(chosen) if chosen else "now"


# For each first word, how many pages stand behind it and what answers it.
ANSWERS = {
    "link": (2, say_link),
    "unlink": (2, say_unlink),
    "page": (0, say_page),
    "undo": (0, say_undo),
    "show": (0, say_show),
    "share": (1, say_share),
    "rank": (0, say_rank),
    "pass": (2, say_pass),
}


def read_leap(text):
    leap = read_fraction(text)
    if not is_leap(leap):
        raise NoText("the fraction is no leap")
    return leap


def answered(live, words):
    some = words.split(" ")
    pages = some[1:]
    if some[0] not in ANSWERS or not all([are_figures(each, 2) for each in pages]):
        raise NoCommand("no row of words is like this")
    answer = ANSWERS[some[0]]
    if len(pages) != answer[0]:
        raise NoCommand("there are too many or too few words")
    return answer[1](live, [int(each) for each in pages])


class Desk:
    def __init__(self):
        self.live = Live((1, ()), (1, 2))

    def say(self, words):
        if not isinstance(words, str):
            raise NoCommand("a row of words is a text")
        if words.startswith("web "):
            self.live = Live(read_web(words[4:]), self.live.leap)
            return DONE
        if words.startswith("leap "):
            self.live = Live(self.live.web(), read_leap(words[5:]))
            return DONE
        return answered(self.live, words)
