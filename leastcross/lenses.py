"""Lenses: two ties that cross needlessly, between two of their crossings or at a common place, and are loosened."""

from leastcross.drawings import made_plain
from leastcross.errors import NoLens
from leastcross.kinds import are_wholes, is_tuple_of, is_whole

# Stands for the common place of two ties among the ends of a lens.
AT_PLACE = -1


def lenses(drawing):
    """Tell all lenses of a drawing, rising, with the numbers of its plain drawing."""
    return lenses_of_plain(made_plain(drawing))


def lenses_of_plain(drawn):
    """Tell all lenses of a plain drawing, rising."""
    found = []
    for one, way in zip(drawn[1], drawn[3]):
        numbers = numbers_by_tie(drawn, one, way)
        for other in sorted(numbers):
            found.extend(lenses_of_two(one, other, numbers[other]))
    return tuple(found)


def numbers_by_tie(drawn, one, way):
    """Tell for each tie that one crosses the numbers of their crossings, as they come in the way of one."""
    numbers = {}
    for number in way:
        first, second, side = drawn[4][number]
        numbers.setdefault(second if first == one else first, []).append(number)
    return numbers


def lenses_of_two(one, other, numbers):
    """Tell the lenses of one with other, which it crosses, of the numbers of their crossings as they come on one."""
    found = [(one, other, first, second) for first, second in zip(numbers, numbers[1:])]
    if one[0] in other:
        found.append((one, other, AT_PLACE, numbers[0]))
    if one[1] in other:
        found.append((one, other, AT_PLACE, numbers[-1]))
    return sorted(found)


def loosened(drawing, lens):
    """Tell the drawing with a lens loosened; NoLens."""
    drawn = made_plain(drawing)
    if not is_made_as_lens(lens) or lens not in lenses_of_plain(drawn):
        raise NoLens("the drawing has no such lens")
    return loosened_plain(drawn, lens)


def is_made_as_lens(thing):
    """Tell whether anything is made as a lens is, of two tuples of whole numbers and two whole numbers."""
    return (is_tuple_of(thing, 4) and are_wholes(thing[0]) and are_wholes(thing[1])
            and is_whole(thing[2]) and is_whole(thing[3]))


def loosened_plain(drawn, lens):
    """Loosen a lens of a plain drawing."""
    n, ties, rings, ways, crossings = drawn
    one, other = lens[:2]
    way_of = {tie: way for tie, way in zip(ties, ways)}
    on_one = spots_on(way_of[one], one, other, lens)
    on_other = spots_on(way_of[other], other, one, lens)
    by_one = way_of[one][min(on_one) + 1:max(on_one)]
    by_other = way_of[other][min(on_other) + 1:max(on_other)]
    alike = (on_one[0] < on_one[1]) == (on_other[0] < on_other[1])
    handed = {number: handed_on(crossings[number], one, other, alike) for number in by_one}
    handed.update({number: handed_on(crossings[number], other, one, alike) for number in by_other})
    new_way = with_between(way_of[one], on_one, by_other if alike else by_other[::-1])
    way_of[one] = without_loops(new_way)
    way_of[other] = with_between(way_of[other], on_other, by_one if alike else by_one[::-1])
    gone = [number for number in new_way if number not in way_of[one]]
    new_ways = [tuple([number for number in way_of[tie] if number not in gone]) for tie in ties]
    new_crossings = [handed.get(number, crossing) for number, crossing in enumerate(crossings)]
    return made_plain((n, ties, rings_after(rings, lens), tuple(new_ways), tuple(new_crossings)))


def spots_on(way, tie, with_tie, lens):
    """Tell where, in the way of a tie of a lens, the two ends stand; a place stands ahead of it or behind it."""
    at_place = -1 if tie[0] in with_tie else len(way)
    return [at_place if end == AT_PLACE else way.index(end) for end in lens[2:]]


def handed_on(crossing, old, new, alike):
    """Tell a crossing that is handed on from an old tie to a new one, which goes there in a like direction or not."""
    one, other, side = crossing
    third = other if one == old else one
    # Whether the third tie goes over old, and so over new, from right to left.
    over_old = side if one == old else 1 - side
    over_new = over_old if alike else 1 - over_old
    return (new, third, over_new) if new < third else (third, new, 1 - over_new)


def with_between(way, spots, numbers):
    """Tell a way with other numbers between two spots, and without those at the spots."""
    return way[:max(min(spots), 0)] + numbers + way[max(spots) + 1:]


def without_loops(way):
    """Tell the way of a tie that may come to itself, going on at such a spot as when it comes there again."""
    last = {number: at for at, number in enumerate(way)}
    left = []
    at = 0
    while at < len(way):
        # A spot that comes twice is no crossing, also where a loop that is left out has its first time.
        if way.count(way[at]) == 1:
            left.append(way[at])
        at = last[way[at]] + 1
    return tuple(left)


def rings_after(rings, lens):
    """Tell the rings where a lens is loosened: at a common place its two ties stand exchanged."""
    one, other = lens[:2]
    if AT_PLACE not in lens[2:]:
        return rings
    place = one[0] if one[0] in other else one[1]
    far, other_far = sum(one) - place, sum(other) - place
    new = {far: other_far, other_far: far}
    new_rings = list(rings)
    new_rings[place] = tuple([new.get(each, each) for each in rings[place]])
    return tuple(new_rings)


def tidied(drawing):
    """Tell a tidy drawing that comes of a drawing by loosening lenses."""
    now = made_plain(drawing)
    found = lenses_of_plain(now)
    while found:
        now = loosened_plain(now, found[0])
        found = lenses_of_plain(now)
    return now
