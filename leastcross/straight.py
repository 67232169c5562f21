"""Straight ties: the drawing of a web whose places are points and whose ties are straight stretches."""

from leastcross.drawings import made_plain, numbers_on, tied_to
from leastcross.errors import NoPoints
from leastcross.webs import pairs


def straight(web, points):
    """Tell the drawing of a web by straight ties between points; NoPoints where there is none."""
    n, ties = web
    refuse_points(web, points)
    crossings = tuple(crossing_of(points, pair) for pair in pairs(web) if do_meet(points, pair))
    rings = tuple(ring_of(points, place, tied_to(ties, place)) for place in range(n))
    numbers = numbers_on(ties, crossings)
    ways = tuple(way_of(points, tie, numbers[tie], crossings) for tie in ties)
    return made_plain((n, ties, rings, ways, crossings))


def refuse_points(web, points):
    """Refuse points that are too few or too many, alike, or on a tie that does not end there."""
    n, ties = web
    if len(points) != n:
        raise NoPoints("the points are not as many as the places")
    if len(set(points)) != n:
        raise NoPoints("two points are alike")
    for tie in ties:
        for place in range(n):
            if place not in tie and lies_on(points, place, tie):
                raise NoPoints("a point lies on a tie that does not end there")


def leftness(start, end, point):
    """Tell a number: above 0 for a point left of the line from start to end, below 0 right of it, 0 on it."""
    return ((end[0] - start[0]) * (point[1] - start[1])
            - (end[1] - start[1]) * (point[0] - start[0]))


def lies_on(points, place, tie):
    """Tell whether the point of a place lies on a tie."""
    start, end = points[tie[0]], points[tie[1]]
    point = points[place]
    return (leftness(start, end, point) == 0
            and min(start[0], end[0]) <= point[0] <= max(start[0], end[0])
            and min(start[1], end[1]) <= point[1] <= max(start[1], end[1]))


def do_meet(points, pair):
    """Tell whether the two ties of a pair go through one point."""
    one, other = pair
    return parts_ends(points, one, other) and parts_ends(points, other, one)


def parts_ends(points, one, other):
    """Tell whether the ends of other lie on unlike sides of the line of one, none on the line."""
    first, last = ends_left_of(points, one, other)
    return first < 0 < last or last < 0 < first


def ends_left_of(points, one, other):
    """Tell the leftness of the two ends of other, by the line of one."""
    start, end = points[one[0]], points[one[1]]
    return (leftness(start, end, points[other[0]]), leftness(start, end, points[other[1]]))


def crossing_of(points, pair):
    """Tell the crossing of a pair of ties that meet."""
    one, other = pair
    first, last = ends_left_of(points, one, other)
    return (one, other, 1 if first < last else 0)


def way_of(points, tie, numbers, crossings):
    """Tell the numbers of the crossings on a tie as they come; NoPoints where two of them are at one point."""
    spots = {number: spot_of(points, tie, crossings[number]) for number in numbers}
    nearer = {number: len([other for other in numbers if is_nearer(spots[other], spots[number])])
              for number in numbers}
    if len({nearer[number] for number in numbers}) != len(numbers):
        raise NoPoints("three ties go through one point")
    return tuple(sorted(numbers, key=lambda number: nearer[number]))


def spot_of(points, tie, crossing):
    """Tell how far a crossing is from the lesser and from the greater place of a tie, as two numbers.

    They are lengths along the tie in a measure that each crossing has of its own; so two spots are compared
    by their ratios alone, and no division is needed.
    """
    one, other, side = crossing
    crossed = other if tie == one else one
    near, far = ends_left_of(points, crossed, tie)
    return (abs(near), abs(far))


def is_nearer(spot, than):
    """Tell whether a spot is nearer to the lesser place of its tie than another spot."""
    return spot[0] * than[1] < than[0] * spot[1]


def ring_of(points, place, tied):
    """Tell the places to which a place is tied as they stand around it, going round to the left."""
    return tuple(sorted(tied, key=lambda other: turn_of(points, place, other, tied)))


def turn_of(points, place, other, tied):
    """Tell by which of two halves of the round, and by how many places in it, one comes to other."""
    half = half_of(points[place], points[other])
    earlier = [each for each in tied if half_of(points[place], points[each]) == half
               and leftness(points[place], points[each], points[other]) > 0]
    return (half, len(earlier))


def half_of(centre, point):
    """Tell 0 for a point above a centre or straight to its right, else 1."""
    # Two points of one half are less than half a turn apart, so leftness tells which of them comes earlier.
    above = point[1] > centre[1]
    straight_right = point[1] == centre[1] and point[0] > centre[0]
    return 0 if above or straight_right else 1
