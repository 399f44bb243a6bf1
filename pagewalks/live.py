"""A live web: links and pages come and go, and what was done is taken back."""

from pagewalks.errors import NoLink
from pagewalks.links import with_link, without_link
from pagewalks.shares import ranked, shares
from pagewalks.webs import MOST_LINKS, MOST_PAGES, even, is_link


class Live:
    def __init__(self, web, leap):
        self.now = web
        self.leap = leap
        # Webs never change, so the one ahead of each deed is all that undo needs.
        self.past = []

    def turn(self, web):
        self.past.append(self.now)
        self.now = web

    def check(self, one, other):
        # Asked ahead of any search: True would be found where a link has 1.
        if not is_link(self.now[0], (one, other)):
            raise NoLink("a link leads from a page of the web to a page of it")

    def link(self, one, other):
        self.check(one, other)
        if len(self.now[1]) >= MOST_LINKS:
            raise NoLink("the web has as many links as it may have")
        self.turn(with_link(self.now, one, other))

    def unlink(self, one, other):
        self.check(one, other)
        fewer = without_link(self.now, one, other)
        if fewer is None:
            raise NoLink("the web has no such link")
        self.turn(fewer)

    def page(self):
        number = self.now[0]
        if number >= MOST_PAGES:
            raise NoLink("the web has as many pages as it may have")
        self.turn((number + 1, self.now[1]))
        return number

    def undo(self):
        if not self.past:
            return False
        self.now = self.past.pop()
        return True

    def web(self):
        return self.now

    def shares(self):
        return shares(self.now, self.leap, even(self.now))

    def ranked(self):
        return ranked(self.now, self.leap, even(self.now))
