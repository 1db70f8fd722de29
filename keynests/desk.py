"""The desk: a shelf that is told rows of words, and answers with texts."""

from keynests.errors import Full, NoKey, NoRow, NoText, Twice
from keynests.fits import fitted
from keynests.layings import laid
from keynests.most import most
from keynests.shelves import Shelf
from keynests.texts import LETTERS, read_nest, read_number, read_rule, show_homes, show_numbers, show_rule
from keynests.webs import MOST_KEYS, web_of

# How many words a row has, by its first one; of the others is_row tells.
WORD_COUNTS = {"put": 2, "out": 2, "has": 2, "where": 2, "keys": 1, "nest": 2, "left": 1, "rule": 1}


def is_row(words):
    if words[0] == "renew":
        return len(words) >= 2
    if words[0] == "fits" or words[0] == "most":
        return 2 <= len(words) <= MOST_KEYS + 1
    return WORD_COUNTS.get(words[0]) == len(words)


def show_words(numbers):
    return " ".join([str(number) for number in numbers])


def show_keys(keys):
    return "none" if keys == [] else show_words(keys)


def show_push(push):
    return str(push[0]) + ":" + LETTERS[push[1]]


def show_place(nest):
    return "nowhere" if nest is None else LETTERS[nest]


def answer_put(shelf, rest):
    key = read_number(rest)
    try:
        row = shelf.put(key)
    except Twice:
        return "twice"
    except Full as refusal:
        return "full " + show_words(refusal.some)
    return "put " + " ".join([show_push(push) for push in row])


def answer_out(shelf, rest):
    key = read_number(rest)
    try:
        nest = shelf.out(key)
    except NoKey:
        return "nowhere"
    return LETTERS[nest]


def answer_has(shelf, rest):
    return "yes" if shelf.has(read_number(rest)) else "no"


def answer_where(shelf, rest):
    return show_place(shelf.where(read_number(rest)))


def answer_keys(shelf, rest):
    return show_keys(shelf.all_there())


def answer_nest(shelf, rest):
    nest = read_nest(rest)
    if nest >= len(shelf.rule()[0]):
        raise NoText("the shelf has no such nest")
    return show_keys(shelf.nest(nest))


def answer_left(shelf, rest):
    return show_numbers(shelf.left())


def answer_rule(shelf, rest):
    return show_rule(shelf.rule())


def answer_renew(shelf, rest):
    rule = read_rule(rest)
    try:
        shelf.renew(rule)
    except Full as refusal:
        return "full " + show_words(refusal.some)
    return "ok"


def web_of_words(shelf, rest):
    return web_of(shelf.rule(), [read_number(word) for word in rest.split(" ")])


def answer_fits(shelf, rest):
    told = fitted(web_of_words(shelf, rest))
    if told[0] == "fits":
        return "fits " + show_homes(told[1])
    return "crowd " + show_words(told[1])


def answer_most(shelf, rest):
    return str(len(laid(most(web_of_words(shelf, rest))[0])))


ANSWERS = {
    "put": answer_put,
    "out": answer_out,
    "has": answer_has,
    "where": answer_where,
    "keys": answer_keys,
    "nest": answer_nest,
    "left": answer_left,
    "rule": answer_rule,
    "renew": answer_renew,
    "fits": answer_fits,
    "most": answer_most,
}


class Desk:
    def __init__(self, text):
        self.shelf = Shelf(read_rule(text))

    def say(self, row):
        if not isinstance(row, str) or not is_row(row.split(" ")):
            raise NoRow("this is no row that the desk knows")
        parted = row.partition(" ")
        answer = ANSWERS[parted[0]]
        return answer(self.shelf, parted[2])
