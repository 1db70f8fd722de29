"""Homes in pairs: the joined parts of a web, and the ways to lay its keys where each nest has room for one."""

from keynests.errors import NoPairs


def joined_to(web, nest):
    nests = {nest: True}
    rest = [nest]
    while rest != []:
        here = rest.pop()
        for homes in web[1]:
            for other in homes:
                if here in homes and other not in nests:
                    nests[other] = True
                    rest.append(other)
    return sorted(nests)


# A key's homes are all joined, so its first one tells in which part it is.
def part_of(web, nest):
    nests = joined_to(web, nest)
    return (nests, [key for key, homes in enumerate(web[1]) if homes[0] in nests])


# Each part is told at its least nest, so they come sorted.
def parts(web):
    found = [part_of(web, nest) for nest in range(len(web[0]))]
    return [part for nest, part in enumerate(found) if part[0][0] == nest]


def check_pairs(web):
    if any([room != 1 for room in web[0]]) or any([len(homes) != 2 for homes in web[1]]):
        raise NoPairs("a room is not 1, or a key has not two homes")


def word_of(part):
    if len(part[1]) == len(part[0]) - 1:
        return "tree"
    if len(part[1]) == len(part[0]):
        return "ring"
    return "over"


def words(web):
    check_pairs(web)
    return [word_of(part) for part in parts(web)]


# A nest is joined to itself, so a key whose homes are alike is on a ring without more.
def is_on_ring(web, key):
    homes = web[1][key]
    others = (web[0], web[1][:key] + web[1][key + 1:])
    return homes[1] in joined_to(others, homes[0])


def on_rings(web):
    check_pairs(web)
    return [key for key in range(len(web[1])) if is_on_ring(web, key)]


def ways_of(part, ring_keys):
    word = word_of(part)
    if word == "tree":
        return len(part[0])
    if word == "over":
        return 0
    # A key whose homes are alike is a ring by itself, which can't be gone round in two ways.
    if len([key for key in part[1] if key in ring_keys]) == 1:
        return 1
    return 2


def ways(web):
    ring_keys = on_rings(web)
    product = 1
    for part in parts(web):
        product *= ways_of(part, ring_keys)
    return product
