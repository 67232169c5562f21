"""Orders: how to put one row, or both in turn, so that the fewest ties cross, and the middle order.

Some places of the lower row are told as a number s that has the place b where its bit b is 1.
"""

from leastcross.kinds import are_wholes, is_whole
from leastcross.rows import crossed, number_of, refuse_order, spots_above


def least_lower(two, upper):
    """Tell (number, lower, table): the fewest crossings, a lower order that has them, and what shows it; NoOrder."""
    refuse_order(upper, two[0])
    numbers = numbers_of_two(two, upper)
    table = [0]
    last_of = [None]
    for s in range(1, 1 << two[1]):
        number, last = min([(with_last(numbers, table, s, b), b) for b in places_in(s)])
        table.append(number)
        last_of.append(last)
    return (table[-1], order_by(last_of), tuple(table))


def numbers_of_two(two, upper):
    """Tell for each two unlike lower places (b, d) their number."""
    row = list(range(two[1]))
    return {(b, d): number_of(two, upper, b, d) for b in row for d in row if b != d}


def places_in(s):
    """Tell the places that s has, rising."""
    return [b for b in range(s.bit_length()) if (s >> b) & 1]


def with_last(numbers, table, s, b):
    """Tell what a table tells for s without b, with the numbers put to it that b has behind the others of s."""
    return table[s ^ (1 << b)] + sum([numbers[(d, b)] for d in places_in(s) if d != b])


def order_by(last_of):
    """Tell the order of all places where, for each s, a place of it that stands last is known."""
    order = ()
    s = len(last_of) - 1
    while s:
        order = (last_of[s],) + order
        s ^= 1 << last_of[s]
    return order


def table_shows(two, upper, number, table):
    """Tell of anything whether, as a table, it shows that no lower order has fewer crossings; NoOrder."""
    refuse_order(upper, two[0])
    many = 1 << two[1]
    if not is_whole(number) or not are_wholes(table) or len(table) != many:
        return False
    numbers = numbers_of_two(two, upper)
    return table[0] == 0 and table[-1] == number and all(
        table[s] <= with_last(numbers, table, s, b) for s in range(many) for b in places_in(s))


def middle(two, upper):
    """Tell the middle order of the lower row; NoOrder."""
    refuse_order(upper, two[0])
    return tuple(sorted(range(two[1]), key=lambda b: middle_key(spots_above(two, upper, b), b)))


def middle_key(spots, b):
    """Tell by what a lower place b is put in order, its ties ending at these spots of the upper order."""
    if not spots:
        return (-1, 0, b)
    return (spots[len(spots) // 2], len(spots) % 2, b)


def settled_rows(two, upper):
    """Tell (upper, lower): two orders, each with the fewest crossings for the other one; NoOrder."""
    turned = turned_over(two)
    lower = least_lower(two, upper)[1]
    number, better, table = least_lower(turned, lower)
    while number < crossed(two, upper, lower):
        upper = better
        lower = least_lower(two, upper)[1]
        number, better, table = least_lower(turned, lower)
    return (upper, lower)


def turned_over(two):
    """Tell a two-rowed web with its rows exchanged."""
    p, q, ties = two
    return (q, p, tuple(sorted([(b, a) for a, b in ties])))
