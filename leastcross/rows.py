"""Two rows: an upper and a lower row of places, tied across, and the crossings of the ties as the rows stand."""

from leastcross.errors import NoOrder, NoWeb, TooMany
from leastcross.kinds import are_wholes, is_tuple_of, is_whole
from leastcross.straight import straight
from leastcross.webs import MOST_PLACES, MOST_TIES

MOST_IN_ROW = 7


def two(p, q, some):
    """Make a two-rowed web of two numbers of places and a tuple of ties, in any order; NoWeb."""
    if not is_many_in_row(p) or not is_many_in_row(q):
        raise NoWeb("a number of places is not one from 1 to 7")
    if not isinstance(some, tuple):
        raise NoWeb("the ties are not a tuple")
    for told in some:
        if not joins_rows(p, q, told):
            raise NoWeb("a tie is not a tuple of an upper and a lower place")
    ties = tuple(sorted(set(some)))
    if len(ties) > MOST_TIES:
        raise NoWeb("there are more than eighteen ties")
    return (p, q, ties)


def is_many_in_row(thing):
    """Tell whether anything is how many places a row may have."""
    return is_whole(thing) and 1 <= thing <= MOST_IN_ROW


def joins_rows(p, q, told):
    """Tell whether anything is a tuple of one of p upper and one of q lower places."""
    return is_tuple_of(told, 2) and are_wholes(told) and 0 <= told[0] < p and 0 <= told[1] < q


def refuse_order(order, many):
    """Refuse with NoOrder anything that is no order of a row of so many places."""
    if not are_wholes(order) or sorted(order) != list(range(many)):
        raise NoOrder("this is no order of the row")


def refuse_orders(two, upper, lower):
    """Refuse with NoOrder an upper order that is none, then a lower one that is none."""
    refuse_order(upper, two[0])
    refuse_order(lower, two[1])


def crossed(two, upper, lower):
    """Tell how many pairs of ties cross by two orders; NoOrder."""
    refuse_orders(two, upper, lower)
    spots = [(upper.index(a), lower.index(b)) for a, b in two[2]]
    return len([1 for one in spots for other in spots if one[0] < other[0] and one[1] > other[1]])


def number_of(two, upper, b, d):
    """Tell how many ties of b and of d cross, by an upper order, where b stands ahead of d; NoOrder."""
    refuse_order(upper, two[0])
    spots_of_d = spots_above(two, upper, d)
    return len([1 for spot in spots_above(two, upper, b) for other in spots_of_d if other < spot])


def spots_above(two, upper, lower_place):
    """Tell where in an upper order the places stand to which a lower place is tied, rising."""
    return sorted([upper.index(a) for a, b in two[2] if b == lower_place])


def row_drawing(two, upper, lower):
    """Tell the drawing of two rows by two orders, the lower places numbered behind the upper ones; NoOrder, TooMany."""
    refuse_orders(two, upper, lower)
    p, q, ties = two
    if p + q > MOST_PLACES:
        raise TooMany("there are more than ten places in the two rows")
    points = [(upper.index(a), 1) for a in range(p)]
    # Three ties go through one point only where the gaps between them below are as those above. Of two gaps that
    # follow one another below, the right one is here more than ten times as wide as the left one, and above the
    # one is never ten times as wide as the other: so no three do.
    points += [(1 << (4 * lower.index(b)), 0) for b in range(q)]
    return straight((p + q, tuple((a, p + b) for a, b in ties)), tuple(points))
