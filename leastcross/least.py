"""The least: drawings of small webs that have just as many crossings as their must.

A place is put on both ties of each of some pairs, as many as the must, in some order along each tie; what comes
is drawn flat, if the pairs and the orders are right ones. Then the two ties of each pair cross at their place: if
they touched there alone they could be drawn apart, and the web would be drawn with fewer crossings than its must.
"""

from leastcross.drawings import made_plain
from leastcross.flat import flat
from leastcross.must import must
from leastcross.odd import even_rows, least_odd, rows_without
from leastcross.webs import pairs


def least(web):
    """Tell a drawing of a web that stands and has just as many crossings as its must; TooMany."""
    number = must(web)[0]
    all_pairs = pairs(web)
    return drawn_over(web, all_pairs, even_rows(all_pairs), (), number)


def drawn_over(web, all_pairs, rows, some, number):
    """Tell a drawing in which some pairs cross, and at most so many more, which hit each odd set that rows make.

    None is told where there is none such.
    """
    odd = least_odd(all_pairs, rows)
    if odd is None:
        return drawn_with(web, some)
    if number == 0:
        return None
    for pair in odd:
        others = rows_without(rows, all_pairs.index(pair))
        drawn = drawn_over(web, all_pairs, others, some + (pair,), number - 1)
        if drawn is not None:
            return drawn
    return None


def drawn_with(web, some):
    """Tell a drawing in which just some pairs cross, each once, or None where there is none.

    Place number n put to at is the one on both ties of pair number at.
    """
    n, ties = web
    for paths in choices_of_paths(web, some):
        steps = [step for path in paths for step in zip(path, path[1:])]
        drawn = flat((n + len(some), tuple(sorted([(min(step), max(step)) for step in steps]))))
        if drawn is not None:
            return read_off(web, some, paths, drawn)
    return None


def choices_of_paths(web, some):
    """Tell all choices of a path for each tie, from its lesser place over the places on it to its greater one."""
    n, ties = web
    choices = [()]
    for i, j in ties:
        on_tie = [n + at for at, pair in enumerate(some) if (i, j) in pair]
        paths = [(i,) + order + (j,) for order in orders_of(on_tie)]
        choices = [chosen + (path,) for chosen in choices for path in paths]
    return choices


def orders_of(places):
    """Tell all orders in which places can stand."""
    orders = [()]
    for place in places:
        orders = [order[:at] + (place,) + order[at:] for order in orders for at in range(len(order) + 1)]
    return orders


def read_off(web, some, paths, drawn):
    """Tell the drawing of a web that a flat drawing of its paths is, the places on ties being crossings."""
    n, ties = web
    far_end = {}
    for (i, j), path in zip(ties, paths):
        far_end[(i, path[1])] = j
        far_end[(j, path[-2])] = i
    rings = tuple(tuple([far_end[(place, beside)] for beside in drawn[2][place]]) for place in range(n))
    ways = tuple(tuple([place - n for place in path[1:-1]]) for path in paths)
    path_of = {tie: path for tie, path in zip(ties, paths)}
    crossings = tuple(crossing_at(pair, n + at, path_of, drawn[2][n + at]) for at, pair in enumerate(some))
    return made_plain((n, ties, rings, ways, crossings))


def crossing_at(pair, place, path_of, ring):
    """Tell the crossing of a pair at a place on both of its ties."""
    one, other = pair
    ahead = path_of[one][path_of[one].index(place) + 1]
    other_ahead = path_of[other][path_of[other].index(place) + 1]
    # Rings go round to the left: so the place that follows where one goes on lies at its left.
    to_the_left = ring[(ring.index(ahead) + 1) % len(ring)]
    return (one, other, int(to_the_left == other_ahead))
