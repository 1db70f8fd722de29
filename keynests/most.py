"""The most keys of a web that can lie, and how much more room lets all of them lie."""

from keynests.pushes import laid_at_all
from keynests.webs import homes_of, room_of


def has_home_beyond(homes, nests):
    return any([nest not in nests for nest in homes])


def bound(web, nests):
    return room_of(web, nests) + len([homes for homes in web[1] if has_home_beyond(homes, nests)])


# The homes of the keys that find no place, and of those that they can push on, are full of the latter, and every other
# key lies beyond: so their bound is reached.
def most(web):
    told = laid_at_all(web)
    return (told[0], homes_of(web, told[1]))


def widened(web, more):
    return (tuple([room + added for room, added in zip(web[0], more)]), web[1])


# One more room lets one more key lie at most, so one for each key that finds no place is the least there is.
def room_wanted(web):
    more = [0] * len(web[0])
    laying = laid_at_all(web)[0]
    for key in range(len(laying)):
        if laying[key] is None:
            laying[key] = web[1][key][0]
            more[laying[key]] += 1
    return (more, laying)
