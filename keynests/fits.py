"""What fits: a place for each key of a web, or a crowd that shows that there is none."""

from keynests.pushes import laid_at_all
from keynests.webs import homes_of, room_of


def is_crowd(web, some):
    return room_of(web, homes_of(web, some)) < len(some)


def spare_key(web, some):
    for key in some:
        if is_crowd(web, [other for other in some if other != key]):
            return key
    return None


# Behind each key that is left out the search begins anew: one that was needed before may be spare then.
def trimmed(web, some):
    rest = list(some)
    spare = spare_key(web, rest)
    while spare is not None:
        rest.remove(spare)
        spare = spare_key(web, rest)
    return rest


def fitted(web):
    told = laid_at_all(web)
    if told[1] == []:
        return ("fits", told[0])
    return ("crowd", trimmed(web, told[1]))
