"""Drawings: the rings of the places, the ways of the ties, and the crossings."""

from leastcross.errors import NoDrawing
from leastcross.kinds import are_wholes, is_tuple_of, is_whole
from leastcross.webs import is_web


def is_drawing(thing):
    """Tell of anything whether it is a drawing."""
    if not is_tuple_of(thing, 5):
        return False
    n, ties, rings, ways, crossings = thing
    return (is_web(n, ties) and are_rings(n, ties, rings)
            and are_crossings(ties, crossings) and are_ways(ties, ways, crossings))


def are_rings(n, ties, rings):
    """Tell whether anything has, for each place of a web, its ring."""
    return is_tuple_of(rings, n) and all(
        are_wholes(ring) and sorted(ring) == tied_to(ties, place) for place, ring in enumerate(rings))


def tied_to(ties, place):
    """Tell the places to which a place is tied, rising."""
    return sorted([i + j - place for i, j in ties if place in (i, j)])


def are_crossings(ties, crossings):
    """Tell whether anything is a tuple of crossings of these ties."""
    return isinstance(crossings, tuple) and all(is_crossing(ties, crossing) for crossing in crossings)


def is_crossing(ties, thing):
    """Tell whether anything is a crossing of two of these ties."""
    if not is_tuple_of(thing, 3):
        return False
    one, other, side = thing
    # The kinds are asked first: to Python (0, True) is equal to the tie (0, 1).
    return (are_wholes(one) and are_wholes(other) and one in ties and other in ties and one < other
            and is_whole(side) and side in (0, 1))


def are_ways(ties, ways, crossings):
    """Tell whether anything has, for each tie, a way with the numbers of its crossings, each once."""
    due = numbers_on(ties, crossings)
    return is_tuple_of(ways, len(ties)) and all(
        are_wholes(way) and sorted(way) == due[tie] for tie, way in zip(ties, ways))


def numbers_on(ties, crossings):
    """Tell for each tie the numbers of the crossings that it has, rising."""
    numbers = {tie: [] for tie in ties}
    for number, (one, other, side) in enumerate(crossings):
        numbers[one].append(number)
        numbers[other].append(number)
    return numbers


def plain(thing):
    """Tell the plain drawing of a drawing; whatever is none is refused with NoDrawing."""
    if not is_drawing(thing):
        raise NoDrawing("this is no drawing")
    return made_plain(thing)


def made_plain(drawing):
    """Begin each ring with its least place, and number the crossings as they are first met."""
    n, ties, rings, ways, crossings = drawing
    numbers = numbers_as_met(ways)
    return (
        n,
        ties,
        tuple(from_least(ring) for ring in rings),
        tuple(tuple([numbers[old] for old in way]) for way in ways),
        tuple(crossings[old] for old in numbers),
    )


def numbers_as_met(ways):
    """Tell, by the old number of each crossing, its number as they are first met; the keys stand as met."""
    numbers = {}
    for way in ways:
        for old in way:
            if old not in numbers:
                numbers[old] = len(numbers)
    return numbers


def from_least(ring):
    """Begin a ring with its least place."""
    if not ring:
        return ring
    at = ring.index(min(ring))
    return ring[at:] + ring[:at]


def count(drawing):
    """Tell how many crossings a drawing has."""
    return len(drawing[4])


def count_of(drawing, one, other):
    """Tell how many crossings are between two unlike ties of a drawing, told in either order."""
    pair = (min(one, other), max(one, other))
    return len([crossing for crossing in drawing[4] if crossing[:2] == pair])


def mirrored(drawing):
    """Tell the mirrored drawing: each ring turned about, and each side the other one."""
    n, ties, rings, ways, crossings = drawing
    turned_rings = tuple(ring[::-1] for ring in rings)
    other_sides = tuple((one, other, 1 - side) for one, other, side in crossings)
    return made_plain((n, ties, turned_rings, ways, other_sides))
