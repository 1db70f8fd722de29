"""Where the keys of a web may lie, with all others laid."""

from keynests.errors import NoFit
from keynests.fits import fitted
from keynests.pushes import put_in


# The web in which a key has this nest alone as a home.
def held_to(web, key, nest):
    return (web[0], web[1][:key] + ((nest, nest),) + web[1][key + 1:])


# Of a crowd in which the key stands, the others fill the room of their homes, and the key takes one of it; where it
# doesn't stand there, they have too little room even without it.
def may_lie(web, key, nest):
    if web[0][nest] == 0:
        return ("never", [])
    told = fitted(held_to(web, key, nest))
    if told[0] == "fits":
        return ("lies", told[1])
    return ("never", [other for other in told[1] if other != key])


def can_move(web, laying, key, nest):
    others = laying[:key] + [None] + laying[key + 1:]
    return put_in(held_to(web, key, nest), others, key)[0] == "put"


# Keys that all lie stay laid while one of them is put in again, so one laying serves for every key and home.
def places(web):
    told = fitted(web)
    if told[0] == "crowd":
        raise NoFit(told[1])
    found = []
    for key, homes in enumerate(web[1]):
        found.append([nest for nest in sorted(set(homes)) if can_move(web, told[1], key, nest)])
    return found
