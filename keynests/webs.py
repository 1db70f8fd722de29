"""Webs: the rooms of the nests, and the homes of each key."""

from keynests.rules import are_rooms, homes, is_number_tuple, is_tuple

MOST_KEYS = 30


def web_of(rule, keys):
    return (rule[0], tuple([homes(rule, key) for key in keys]))


def are_keys(thing, nests):
    return is_tuple(thing, 0, MOST_KEYS) and all([is_number_tuple(key, 2, 3, nests - 1) for key in thing])


def is_web(thing):
    return is_tuple(thing, 2, 2) and are_rooms(thing[0]) and are_keys(thing[1], len(thing[0]))


def homes_of(web, some):
    found = []
    for key in some:
        found.extend(web[1][key])
    return sorted(set(found))


def room_of(web, nests):
    return sum([web[0][nest] for nest in nests])
