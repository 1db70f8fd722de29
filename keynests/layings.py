"""Layings: in which nest each key of a web lies, if it lies."""


# A crowded nest has less than nothing left, which fault looks for.
def left(web, laying):
    return [room - laying.count(nest) for nest, room in enumerate(web[0])]


def fault(web, laying):
    for key, nest in enumerate(laying):
        if nest is not None and nest not in web[1][key]:
            return ("home", key)
    for nest, room in enumerate(left(web, laying)):
        if room < 0:
            return ("room", nest)
    return None


def is_whole(laying):
    return None not in laying


def laid(laying):
    return [key for key, nest in enumerate(laying) if nest is not None]


def lying(laying, nest):
    return [key for key, place in enumerate(laying) if place == nest]
