"""Other names: nests and keys renumbered by an order."""


# What was at a place is at order's number of it then.
def placed(things, order):
    told = [None] * len(things)
    for place, thing in enumerate(things):
        told[order[place]] = thing
    return told


def nests_named(web, order):
    keys = [tuple([order[nest] for nest in homes]) for homes in web[1]]
    return (tuple(placed(web[0], order)), tuple(keys))


def keys_named(web, order):
    return (web[0], tuple(placed(web[1], order)))


# A laying that isn't right may hold numbers of no nest, which have no other name.
def nest_named(nest, order):
    if nest is None or nest < 0 or nest >= len(order):
        return nest
    return order[nest]


def laying_of_nests(laying, order):
    return [nest_named(nest, order) for nest in laying]


def laying_of_keys(laying, order):
    return placed(laying, order)


def some_named(some, order):
    return sorted([order[one] for one in some])
