"""Texts of rules and webs, written and read."""

from keynests.errors import NoText
from keynests.rules import is_rule
from keynests.webs import is_web

FIGURES = "0123456789"
MOST_FIGURES = 60
LETTERS = "abcdefghijklmnopqrstuvwxyz"


def show_numbers(numbers):
    return ",".join([str(number) for number in numbers])


def show_rule(rule):
    return " ".join([show_numbers(rule[0])] + [show_numbers(way) for way in rule[1]])


def show_homes(nests):
    return " ".join([LETTERS[nest] for nest in nests])


def show_web(web):
    return "; ".join([show_numbers(web[0])] + [show_homes(nests) for nests in web[1]])


# Read sign by sign: Python's own reading lets more by, as signs, blanks, underscores and foreign figures.
def read_number(word):
    if len(word) == 0 or len(word) > MOST_FIGURES or any([sign not in FIGURES for sign in word]):
        raise NoText("a number is not written by figures")
    if word[0] == "0" and len(word) > 1:
        raise NoText("a number has a nought ahead")
    return int(word)


def read_numbers(word):
    return tuple([read_number(part) for part in word.split(",")])


def read_nest(word):
    if len(word) != 1 or word not in LETTERS:
        raise NoText("a nest is not written as a letter")
    return LETTERS.find(word)


def check_text(text):
    if not isinstance(text, str):
        raise NoText("this is no text")


def read_rule(text):
    check_text(text)
    words = text.split(" ")
    rule = (read_numbers(words[0]), tuple([read_numbers(word) for word in words[1:]]))
    if not is_rule(rule):
        raise NoText("the text shows no rule")
    return rule


def read_homes(words):
    return tuple([read_nest(word) for word in words.split(" ")])


def read_web(text):
    check_text(text)
    pieces = text.split("; ")
    web = (read_numbers(pieces[0]), tuple([read_homes(piece) for piece in pieces[1:]]))
    if not is_web(web):
        raise NoText("the text shows no web")
    return web
