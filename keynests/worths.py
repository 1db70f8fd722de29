"""Worths: keys of the greatest worth together that can lie, with a bound for each worth."""

from keynests.layings import fault, laid
from keynests.most import bound
from keynests.pushes import laid_more
from keynests.webs import homes_of


def falling(worths):
    return list(reversed(sorted(set([worth for worth in worths if worth > 0]))))


# Keys once laid are pushed on, but never out: so no key of less worth takes the place of one of more.
def best(web, worths):
    laying = [None] * len(web[1])
    crowded = []
    shows = []
    for worth in falling(worths):
        told = laid_more(web, laying, [key for key, other in enumerate(worths) if other == worth])
        laying = told[0]
        crowded.extend(told[1])
        shows.append((worth, homes_of(web, crowded)))
    return (laid(laying), laying, shows)


def is_shown(web, worths, some, show):
    worthy = [key for key, worth in enumerate(worths) if worth >= show[0]]
    alone = (web[0], tuple([web[1][key] for key in worthy]))
    return len([key for key in some if key in worthy]) == bound(alone, show[1])


def is_best(web, worths, told):
    some = told[0]
    shows = told[2]
    if fault(web, told[1]) is not None or laid(told[1]) != some:
        return False
    if [show[0] for show in shows] != falling(worths):
        return False
    return all([is_shown(web, worths, some, show) for show in shows])
