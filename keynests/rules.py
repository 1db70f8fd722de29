"""Rules, and the homes that a rule gives to a key."""

from keynests.errors import NoRule

DIVISOR = 10007
MOST_NESTS = 10
MOST_ROOM = 9


def is_number(thing, greatest):
    # True and False are ints to Python, but no whole numbers here.
    return isinstance(thing, int) and not isinstance(thing, bool) and 0 <= thing <= greatest


def is_tuple(thing, fewest, most):
    return isinstance(thing, tuple) and fewest <= len(thing) <= most


def is_number_tuple(thing, fewest, most, greatest):
    return is_tuple(thing, fewest, most) and all([is_number(part, greatest) for part in thing])


def are_rooms(thing):
    return is_number_tuple(thing, 1, MOST_NESTS, MOST_ROOM)


def are_ways(thing):
    return is_tuple(thing, 2, 3) and all([is_number_tuple(way, 2, 2, DIVISOR - 1) for way in thing])


def is_rule(thing):
    return is_tuple(thing, 2, 2) and are_rooms(thing[0]) and are_ways(thing[1])


def rule_of(rooms, ways):
    rule = (rooms, ways)
    if not is_rule(rule):
        raise NoRule("these rooms and ways make no rule")
    return rule


def homes(rule, key):
    nests = len(rule[0])
    return tuple([(way[0] * key + way[1]) % DIVISOR % nests for way in rule[1]])
