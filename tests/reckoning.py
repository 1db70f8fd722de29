"""What the tests reckon by themselves, straight from the document, and webs to ask of.

Nothing here draws on the program, so that both can be held against one another.
"""

import copy

FAR = 10 ** 59
FARTHEST = 10 ** 60 - 1


class Draw:
    """Numbers by a plain reckoning, the same in each run."""

    def __init__(self, start):
        self.state = start * 7919 + 12345

    def below(self, end):
        self.state = (self.state * 6364136223846793005 + 1442695040888963407) % 2 ** 64
        return (self.state >> 33) % end

    def one_of(self, things):
        return things[self.below(len(things))]

    def shuffled(self, things):
        rest, told = list(things), []
        while rest:
            told.append(rest.pop(self.below(len(rest))))
        return told


def drawn_key(draw, nests, most_homes=3):
    return tuple(draw.below(nests) for _ in range(2 + draw.below(most_homes - 1)))


def drawn_web(draw, nests, keys, greatest, most_homes=3):
    rooms = tuple(draw.below(greatest + 1) for _ in range(nests))
    return (rooms, tuple(drawn_key(draw, nests, most_homes) for _ in range(keys)))


def small_webs(many, most_keys=6):
    """Webs of few keys and nests, of which all layings can be gone through."""
    told = []
    for start in range(many):
        draw = Draw(start)
        told.append(drawn_web(draw, 1 + draw.below(4), draw.below(most_keys + 1), 1 + draw.below(3)))
    return told


def tight_webs(many):
    """Small webs in which keys just fit or just don't, with rows of several pushes."""
    told = []
    for start in range(many):
        draw = Draw(500 + start)
        nests = 3 + draw.below(3)
        rooms = tuple(draw.one_of((1, 1, 1, 1, 0, 2)) for _ in range(nests))
        told.append((rooms, tuple(drawn_key(draw, nests, 2 + (start % 3 == 0)) for _ in range(nests - draw.below(2)))))
    return told


def pair_webs(many):
    """Small webs of pairs, alike homes and homes that many keys share among them."""
    told = []
    for start in range(many):
        draw = Draw(2000 + start)
        nests = 1 + draw.below(7)
        keys = draw.below(nests + 2) if start % 2 else nests - draw.below(2)
        told.append(((1,) * nests, tuple((draw.below(nests), draw.below(nests)) for _ in range(keys))))
    return told


def great_webs(many):
    """Webs of 30 keys in 10 nests, some that fit and some that don't."""
    told = []
    for start in range(many):
        draw = Draw(1000 + start)
        rooms = tuple(draw.below(3) + 1 + start % 4 for _ in range(10))
        told.append((rooms, tuple(drawn_key(draw, 10) for _ in range(30))))
    return told


EDGE_WEBS = [
    ((1,), ()),
    ((0,), ()),
    ((9,) * 10, ()),
    ((0,), ((0, 0),)),
    ((1,), ((0, 0),)),
    ((1,), ((0, 0), (0, 0, 0))),
    ((0, 0), ((0, 1), (1, 0, 1))),
    ((1, 0), ((0, 1), (1, 0), (1, 1))),
    ((1, 1), ((0, 1), (0, 1))),
    ((1, 1), ((0, 1), (0, 1), (1, 0))),
    ((2, 1, 0), ((0, 0), (0, 0), (0, 1), (2, 1))),
    ((1, 2, 3), ((0, 0, 1), (1, 1), (2, 0, 2), (0, 2), (1, 0), (0, 0))),
    ((10, 0), ((0, 1), (1, 1), (0, 0))),
    ((FAR, 1), ((0, 1), (1, 1), (1, 1), (0, 0, 1))),
    ((0, FARTHEST, FAR), ((0, 0), (1, 2), (0, 1, 2))),
    ((FARTHEST,) * 10, tuple((k % 10, k * 3 % 10) for k in range(30))),
    ((0,) * 10, tuple((k % 10, k * 3 % 10, k * 7 % 10) for k in range(30))),
]


def homes_by(rule, key):
    rooms, ways = rule
    return tuple((factor * key + shift) % 10007 % len(rooms) for factor, shift in ways)


def web_by(rule, keys):
    return (rule[0], tuple(homes_by(rule, key) for key in keys))


def drawn_rule(draw, nests, greatest, ways=None):
    rooms = tuple(draw.below(greatest + 1) for _ in range(nests))
    many = ways or 2 + draw.below(2)
    return (rooms, tuple((draw.below(10007), draw.below(10007)) for _ in range(many)))


def homes_together(web, some):
    told = []
    for nest in range(len(web[0])):
        if any(nest in web[1][key] for key in some):
            told.append(nest)
    return told


def room_together(web, nests):
    return sum(web[0][nest] for nest in nests)


def crowd(web, some):
    return len(some) > room_together(web, homes_together(web, some))


def less(some, key):
    return [other for other in some if other != key]


def tight_crowd(web, some):
    """Whether these keys are a crowd of which no key can be left out."""
    return crowd(web, some) and not any(crowd(web, less(some, key)) for key in some)


def rising(some, end):
    return some.__class__ is list and some == sorted(set(some)) and all(0 <= one < end for one in some)


def right(web, laying):
    """Whether a thing is a right laying of the web."""
    if laying.__class__ is not list or len(laying) != len(web[1]):
        return False
    if not all(nest is None or nest in homes for nest, homes in zip(laying, web[1])):
        return False
    return all(len([1 for place in laying if place == nest]) <= room for nest, room in enumerate(web[0]))


def right_and_whole(web, laying):
    return right(web, laying) and None not in laying


def all_layings(web, nowhere=True):
    """All right layings, each once; without those in which a key lies nowhere, if so asked."""
    room = list(web[0])
    laying = []

    def go_on(key):
        if key == len(web[1]):
            yield list(laying)
            return
        for nest in sorted(set(web[1][key])) + ([None] if nowhere else []):
            if nest is None or room[nest] > 0:
                laying.append(nest)
                if nest is not None:
                    room[nest] -= 1
                yield from go_on(key + 1)
                if nest is not None:
                    room[nest] += 1
                laying.pop()

    return go_on(0)


def whole_layings(web):
    return list(all_layings(web, nowhere=False))


def most_that_lie(web):
    return max(len(laying) - laying.count(None) for laying in all_layings(web))


def drawn_laying(draw, web, tries=None):
    """A right laying; some keys of it lie nowhere, though there may be room."""
    room = list(web[0])
    laying = [None] * len(web[1])
    for key in draw.shuffled(range(len(web[1]))):
        nest = draw.one_of(web[1][key])
        if room[nest] > 0 and (tries is None or draw.below(tries)):
            laying[key] = nest
            room[nest] -= 1
    return laying


def bound_of(web, nests):
    return room_together(web, nests) + len([homes for homes in web[1] if not set(homes) <= set(nests)])


def pushable(web, laying, key):
    """The key and all that it can push on, one behind another."""
    told = [key]
    for one in told:
        for other, nest in enumerate(laying):
            if nest in web[1][one] and other not in told:
                told.append(other)
    return sorted(told)


def fewest_pushes(web, laying, key):
    """How many tuples the shortest row has, or None: in rounds, by the keys that can be pushed with so many."""
    keys, met, many = [key], [key], 1
    while keys:
        nests = {nest for one in keys for nest in web[1][one] if nest != laying[one]}
        if any(laying.count(nest) < web[0][nest] for nest in nests):
            return many
        keys = [other for other, nest in enumerate(laying) if nest in nests and other not in met]
        met.extend(keys)
        many += 1
    return None


def fault_of_row(web, laying, key, row):
    """At which tuple a row of pushes is amiss, as the document's own sentence goes; None where it is right."""
    behind = list(laying)
    for at, (one, nest) in enumerate(row):
        if one not in range(len(laying)) or nest not in range(len(web[0])):
            return at
        if at == 0 and one != key:
            return at
        if at > 0 and (laying[one] is None or laying[one] != row[at - 1][1]):
            return at
        if nest not in web[1][one] or nest == laying[one]:
            return at
        if one in [before for before, _ in row[:at]]:
            return at
        behind[one] = nest
    if not row or not right(web, behind):
        return len(row)
    return None


def spoil(thing):
    """Changes every list in a thing, so that whoever keeps one of them is found out."""
    if isinstance(thing, (list, tuple)):
        for part in thing:
            spoil(part)
    if isinstance(thing, list):
        thing.insert(0, 77)
        thing.append(-5)
        thing.reverse()


def check_own(test, function, *given):
    """Promise 2: what is handed in is unchanged, and what is told is the asker's own."""
    before = copy.deepcopy(given)
    told = function(*given)
    test.assertEqual(given, before)
    kept = copy.deepcopy(told)
    spoil(told)
    test.assertEqual(given, before, "what was handed in is shared with what was told")
    again = function(*given)
    test.assertEqual(again, kept, "what was told is kept by the program")
    spoil(given)
    test.assertEqual(again, kept, "what was told hangs on what was handed in")
    fresh = function(*copy.deepcopy(before))
    test.assertEqual(fresh, kept, "what was handed in is kept by the program")
