"""Webs: places, the ties between them, their parts and their pairs of ties."""

from leastcross.errors import NoWeb
from leastcross.kinds import are_wholes, is_tuple_of, is_whole

MOST_PLACES = 10
MOST_TIES = 18


def web(n, some):
    """Make a web of a number of places and a tuple of ties, in any order, told either way round."""
    # No message shows what was handed in: Python refuses to write out very great numbers.
    if not is_whole(n) or not 1 <= n <= MOST_PLACES:
        raise NoWeb("the number of places is not one from 1 to 10")
    if not isinstance(some, tuple):
        raise NoWeb("the ties are not a tuple")
    for told in some:
        if not joins_places(n, told):
            raise NoWeb("a tie is not a tuple of two unlike places")
    ties = tuple(sorted({(min(told), max(told)) for told in some}))
    if len(ties) > MOST_TIES:
        raise NoWeb("there are more than eighteen ties")
    return (n, ties)


def joins_places(n, told):
    """Tell whether anything is a tuple of two unlike places below n, in either order."""
    if not is_tuple_of(told, 2) or not are_wholes(told):
        return False
    i, j = told
    return 0 <= i < n and 0 <= j < n and i != j


def is_web(n, ties):
    """Tell whether (n, ties), of anything, is a web as it stands."""
    try:
        return web(n, ties) == (n, ties)
    except NoWeb:
        return False


def parts(web):
    """Tell the parts of a web: the places joined together, the parts by their first places."""
    n, ties = web
    firsts = list(range(n))
    for i, j in ties:
        low = min(firsts[i], firsts[j])
        high = max(firsts[i], firsts[j])
        firsts = [low if first == high else first for first in firsts]
    places_of = {first: [] for first in sorted(firsts)}
    for place, first in enumerate(firsts):
        places_of[first].append(place)
    return tuple(tuple(places) for places in places_of.values())


def pairs(web):
    """Tell all pairs of ties without a common place, rising."""
    ties = web[1]
    found = []
    for at, one in enumerate(ties):
        for other in ties[at + 1:]:
            if not have_common_place(one, other):
                found.append((one, other))
    return tuple(found)


def have_common_place(one, other):
    """Tell whether two ties end at one place."""
    return one[0] in other or one[1] in other


def by_turns(one, other):
    """Tell whether the ends of two ties stand by turns."""
    i, j = one
    k, m = other
    return i < k < j < m or k < i < m < j
