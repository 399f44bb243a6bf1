"""Texts of webs and fractions, written and read back."""

from pagewalks.errors import NoText
from pagewalks.fractions import is_fraction
from pagewalks.webs import is_web

MOST_FIGURES = 13


def show_figures(number):
    # Python itself refuses to write whole numbers of more than some thousand figures at once.
    pieces = []
    while number >= 10 ** 60:
        pieces.append(str(number % 10 ** 60).zfill(60))
        number = number // 10 ** 60
    pieces.append(str(number))
    return "".join(reversed(pieces))


def show_number(number):
    if number < 0:
        return "-" + show_figures(-number)
    return show_figures(number)


def show_fraction(fraction):
    return show_number(fraction[0]) + "/" + show_number(fraction[1])


def show_web(web):
    return "pages " + str(web[0]) + "".join([f" {here}>{there}" for here, there in web[1]])


def are_figures(text, most):
    if text == "" or len(text) > most or not all([sign in "0123456789" for sign in text]):
        return False
    return text == "0" or not text.startswith("0")


def read_number(text):
    figures = text[1:] if text.startswith("-") else text
    if not are_figures(figures, MOST_FIGURES) or text == "-0":
        raise NoText("no number stands where one must")
    return int(text)


def read_pair(text, between):
    ends = text.split(between)
    if len(ends) != 2:
        raise NoText("no two numbers stand where they must")
    return (read_number(ends[0]), read_number(ends[1]))


def read_fraction(text):
    fraction = read_pair(text, "/")
    if not is_fraction(fraction):
        raise NoText("the text is of no fraction")
    return fraction


def read_web(text):
    words = text.split(" ")
    if words[0] != "pages" or len(words) < 2:
        raise NoText("the text is of no web")
    web = (read_number(words[1]), tuple([read_pair(word, ">") for word in words[2:]]))
    if not is_web(web):
        raise NoText("the text is of no web")
    return web
