"""Shelves: keys that come and go, each in one of its homes by a rule."""

from keynests.errors import Full, NoKey, Twice
from keynests.fits import fitted
from keynests.layings import left
from keynests.pushes import put_in
from keynests.webs import MOST_KEYS, web_of


class Shelf:
    def __init__(self, rule):
        self.kept_rule = rule
        self.nest_of = {}

    def put(self, key):
        if self.has(key):
            raise Twice("the key is there already")
        keys = self.all_there() + [key]
        if len(keys) > MOST_KEYS:
            raise Full(sorted(keys))
        told = put_in(web_of(self.kept_rule, keys), self.laying() + [None], len(keys) - 1)
        if told[0] == "full":
            raise Full(sorted([keys[place] for place in told[1]]))
        row = [(keys[push[0]], push[1]) for push in told[1]]
        for push in row:
            self.nest_of[push[0]] = push[1]
        return row

    def out(self, key):
        if not self.has(key):
            raise NoKey("the key isn't there")
        return self.nest_of.pop(key)

    def has(self, key):
        return key in self.nest_of

    def where(self, key):
        return self.nest_of.get(key)

    def all_there(self):
        return sorted(self.nest_of)

    def nest(self, h):
        return [key for key in self.all_there() if self.nest_of[key] == h]

    # The places of the laying are those of all_there.
    def laying(self):
        return [self.nest_of[key] for key in self.all_there()]

    def left(self):
        return left(web_of(self.kept_rule, self.all_there()), self.laying())

    def renew(self, rule):
        keys = self.all_there()
        told = fitted(web_of(rule, keys))
        if told[0] == "crowd":
            raise Full([keys[place] for place in told[1]])
        self.kept_rule = rule
        for place, key in enumerate(keys):
            self.nest_of[key] = told[1][place]

    def rule(self):
        return self.kept_rule
