"""Pushes: how a key that comes is put in, by pushing others on to their other homes."""

from keynests.errors import NoPush
from keynests.layings import fault, left, lying


def is_push(web, laying, row, at):
    key = row[at][0]
    # Python would take a number below 0 as a place from the end.
    if key < 0 or key >= len(laying):
        return False
    if row[at][1] not in web[1][key] or row[at][1] == laying[key]:
        return False
    return key not in [push[0] for push in row[:at]]


def follows(laying, key, row, at):
    if at == 0:
        return row[0][0] == key
    return laying[row[at][0]] == row[at - 1][1]


def pushed(web, laying, key, row):
    behind = list(laying)
    for at, push in enumerate(row):
        if not (is_push(web, laying, row, at) and follows(laying, key, row, at)):
            raise NoPush(at)
        behind[push[0]] = push[1]
    if len(row) == 0 or fault(web, behind) is not None:
        raise NoPush(len(row))
    return behind


# For each nest that pushes come to, nearest first: the key that goes there, and the nest that this key leaves.
# Each nest is met on the shortest way, so a row that is read from it has the fewest tuples.
def pushes_to(web, laying, key):
    pushes = {}
    for nest in web[1][key]:
        pushes[nest] = (key, None)
    nests = list(pushes)
    at = 0
    while at < len(nests):
        for other in lying(laying, nests[at]):
            for nest in web[1][other]:
                if nest not in pushes:
                    pushes[nest] = (other, nests[at])
                    nests.append(nest)
        at += 1
    return pushes


def row_to(pushes, nest):
    row = []
    while nest is not None:
        row.append((pushes[nest][0], nest))
        nest = pushes[nest][1]
    return list(reversed(row))


def put_in(web, laying, key):
    pushes = pushes_to(web, laying, key)
    room = left(web, laying)
    for nest in pushes:
        if room[nest] > 0:
            return ("put", row_to(pushes, nest))
    return ("full", [other for other, nest in enumerate(laying) if other == key or nest in pushes])


def within(web, laying, key, number):
    told = put_in(web, laying, key)
    if told[0] == "put" and len(told[1]) <= number:
        return told[1]
    return None


# Told beside the laying are the keys that find no place, with all that they can push on. What keys are laid later
# never enters the homes of these, which are full of them, so what is told holds for the laying at the end.
def laid_more(web, laying, keys):
    crowded = []
    for key in keys:
        told = put_in(web, laying, key)
        if told[0] == "put":
            laying = pushed(web, laying, key, told[1])
        else:
            crowded.extend(told[1])
    return (laying, sorted(set(crowded)))


def laid_at_all(web):
    return laid_more(web, [None] * len(web[1]), list(range(len(web[1]))))
