"""Routes: ties put into a drawing over its pieces, taken out again, and led by the way of fewest crossings."""

from leastcross.drawings import made_plain
from leastcross.errors import NoRoute, NoTie
from leastcross.faces import across, faces, joined_places, stands, way_from
from leastcross.kinds import are_wholes, is_tuple_of, is_whole
from leastcross.webs import MOST_TIES, joins_places


def put(drawing, tie, route):
    """Tell the drawing with a tie put in by a route; NoTie, NoRoute."""
    refuse_as_new(drawing, tie)
    if not is_route(drawing, tie, route):
        raise NoRoute("this is no route for the tie")
    made = put_by(drawing, tie, route)
    if not stands(made):
        raise NoRoute("by this route no drawing comes that stands")
    return made


def refuse_as_new(drawing, tie):
    """Refuse with NoTie anything that is no tie to be put in."""
    if not is_free(drawing, tie):
        raise NoTie("this is no tie that the drawing has not")
    if len(drawing[1]) >= MOST_TIES:
        raise NoTie("there are eighteen ties")


def is_free(drawing, tie):
    """Tell whether anything is a tie of two places of a drawing that the drawing has not."""
    return joins_places(drawing[0], tie) and tie[0] < tie[1] and tie not in drawing[1]


def is_route(drawing, tie, route):
    """Tell whether anything is made as a route for a tie; what comes of it need not stand."""
    if not is_tuple_of(route, 3):
        return False
    start, steps, end = route
    rings = drawing[2]
    return (is_spot_in(rings[tie[0]], start) and is_spot_in(rings[tie[1]], end)
            and are_unlike_pieces(drawing, steps))


def is_spot_in(ring, place):
    """Tell whether a tie can leave a ring just behind anything that is told as a place of it."""
    if not ring:
        return place is None
    return is_whole(place) and place in ring


def are_unlike_pieces(drawing, steps):
    """Tell whether anything is a tuple of steps of a drawing, no two of one piece."""
    if not isinstance(steps, tuple) or not all(is_step(drawing, step) for step in steps):
        return False
    return len({forward(drawing, step) for step in steps}) == len(steps)


def is_step(drawing, thing):
    """Tell whether anything is a step of a drawing."""
    if not is_tuple_of(thing, 3) or not are_wholes(thing):
        return False
    i, j, k = thing
    return (min(i, j), max(i, j)) in drawing[1] and 0 <= k <= len(way_from(drawing, i, j))


def forward(drawing, step):
    """Tell that step of the piece of a step that goes from the lesser place to the greater one."""
    return step if step[0] < step[1] else across(drawing, step)


def put_by(drawing, tie, route):
    """Put a tie into a drawing by a route, whether or not what comes stands."""
    n, ties, rings, ways, crossings = drawing
    start, steps, end = route
    new_rings = list(rings)
    new_rings[tie[0]] = with_behind(rings[tie[0]], start, tie[1])
    new_rings[tie[1]] = with_behind(rings[tie[1]], end, tie[0])
    numbers = {forward(drawing, step): len(crossings) + at for at, step in enumerate(steps)}
    way_of = {old: way_over(old, way, numbers) for old, way in zip(ties, ways)}
    way_of[tie] = tuple(numbers.values())
    new_ties = tuple(sorted(way_of))
    new_crossings = crossings + tuple(crossing_at(tie, step) for step in steps)
    return made_plain((n, new_ties, tuple(new_rings), tuple(way_of[each] for each in new_ties), new_crossings))


def with_behind(ring, place, new):
    """Tell a ring with a new place just behind a place of it."""
    at = 0 if place is None else ring.index(place) + 1
    return ring[:at] + (new,) + ring[at:]


def way_over(tie, way, numbers):
    """Tell the way of a tie with the crossings put in that have numbers under its forward steps."""
    new_way = []
    for k in range(len(way) + 1):
        number = numbers.get((tie[0], tie[1], k))
        if number is not None:
            new_way.append(number)
        new_way.extend(way[k:k + 1])
    return tuple(new_way)


def crossing_at(tie, step):
    """Tell the crossing of a tie that goes over a step from its left to its right."""
    crossed = (min(step[:2]), max(step[:2]))
    to_the_right = step[0] < step[1]
    # Who goes over a tie from its left to its right is gone over by that tie from right to left.
    side = int(to_the_right == (tie < crossed))
    return (min(tie, crossed), max(tie, crossed), side)


def without(drawing, tie):
    """Tell the drawing with a tie and its crossings taken out; NoTie."""
    if not is_there(drawing, tie):
        raise NoTie("the drawing has no such tie")
    n, ties, rings, ways, crossings = drawing
    at = ties.index(tie)
    gone = ways[at]
    new_rings = list(rings)
    new_rings[tie[0]] = tuple([place for place in rings[tie[0]] if place != tie[1]])
    new_rings[tie[1]] = tuple([place for place in rings[tie[1]] if place != tie[0]])
    new_ways = [tuple([number for number in way if number not in gone]) for way in ways[:at] + ways[at + 1:]]
    # Crossings that are met on no way fall out where the others are numbered anew.
    return made_plain((n, ties[:at] + ties[at + 1:], tuple(new_rings), tuple(new_ways), crossings))


def is_there(drawing, tie):
    """Tell whether anything is a tie of a drawing."""
    # The kinds are asked first: to Python (0, True) is equal to the tie (0, 1).
    return are_wholes(tie) and tie in drawing[1]


def best(drawing, tie):
    """Tell (route, levels): a best route for a tie, and the levels of the faces or None; NoTie."""
    refuse_as_new(drawing, tie)
    return best_of(drawing, tie)


def best_of(drawing, tie):
    """Tell a best route for a tie that a drawing has not, and the levels of the faces or None."""
    i, j = tie
    rings = drawing[2]
    if j not in part_of(drawing, i):
        # No piece need be gone over: each part can lie in any face of the other one.
        return ((first_of(rings[i]), (), first_of(rings[j])), None)
    all_faces = faces(drawing)
    levels, came_by = levels_from(drawing, all_faces, i)
    last = min(numbers_at(all_faces, j), key=lambda number: levels[number])
    steps = []
    first = last
    while levels[first] > 0:
        step, first = came_by[first]
        steps.append(step)
    route = (spot_at(all_faces[first], i), tuple(steps[::-1]), spot_at(all_faces[last], j))
    return (route, tuple(levels))


def first_of(ring):
    """Tell the first place of a ring, None where it has none."""
    return ring[0] if ring else None


def part_of(drawing, place):
    """Tell the places of the part of a drawing that a place is in."""
    return [places for places in joined_places(drawing) if place in places][0]


def numbers_at(all_faces, place):
    """Tell the numbers of the faces at a place."""
    return [number for number, face in enumerate(all_faces) if spot_at(face, place) is not None]


def spot_at(face, place):
    """Tell the place in the ring of a place just behind which a tie leaves into a face, None where there is none."""
    # The face is at the left of the step that begins there, and rings go round to the left.
    for i, j, k in face:
        if i == place and k == 0:
            return j
    return None


def levels_from(drawing, all_faces, place):
    """Tell (levels, came_by): the level of each face, counted from a place, None for faces of other parts.

    Came_by has, for each face with a level above 0, the step that is gone over to come to it from a face with
    one less, and the number of that face.
    """
    number_of = numbers_by_step(all_faces)
    levels = [None for face in all_faces]
    came_by = {}
    reached = numbers_at(all_faces, place)
    level = 0
    while reached:
        for number in reached:
            levels[number] = level
        level += 1
        later = {}
        for number in reached:
            for step in all_faces[number]:
                beside = number_of[across(drawing, step)]
                if levels[beside] is None and beside not in later:
                    later[beside] = (step, number)
        came_by.update(later)
        reached = list(later)
    return (levels, came_by)


def numbers_by_step(all_faces):
    """Tell for each step the number of its face."""
    return {step: number for number, face in enumerate(all_faces) for step in face}


def levels_show(drawing, tie, number, levels):
    """Tell of anything whether, as levels, it shows that no route for a tie has fewer steps than a number."""
    if not is_free(drawing, tie) or not is_whole(number):
        return False
    i, j = tie
    part = part_of(drawing, i)
    if j not in part:
        return levels is None and number == 0
    all_faces = faces(drawing)
    return (are_levels(all_faces, part, levels) and differ_little(drawing, all_faces, levels)
            and all(levels[each] == 0 for each in numbers_at(all_faces, i))
            and all(levels[each] >= number for each in numbers_at(all_faces, j)))


def are_levels(all_faces, part, levels):
    """Tell whether anything has a whole number from 0 on for each face of a part, and None for each other face."""
    return is_tuple_of(levels, len(all_faces)) and all(
        is_level(level) if face[0][0] in part else level is None for face, level in zip(all_faces, levels))


def is_level(thing):
    """Tell whether anything is a whole number from 0 on."""
    return is_whole(thing) and thing >= 0


def differ_little(drawing, all_faces, levels):
    """Tell whether levels differ by at most 1 at each piece, but for those whose faces have none."""
    number_of = numbers_by_step(all_faces)
    for step, number in number_of.items():
        beside = levels[number_of[across(drawing, step)]]
        if beside is not None and abs(levels[number] - beside) > 1:
            return False
    return True


def led(drawing, tie):
    """Tell the drawing with a tie taken out and put in by a best route; NoTie."""
    rest = without(drawing, tie)
    return put_by(rest, tie, best_of(rest, tie)[0])


def settled(drawing):
    """Tell a settled drawing that comes of a drawing by leading ties anew."""
    now = made_plain(drawing)
    ties = now[1]
    at = 0
    in_vain = 0
    # The drawing is settled when each tie, one behind another, was led anew in vain.
    while in_vain < len(ties):
        then = led(now, ties[at % len(ties)])
        at += 1
        in_vain += 1
        if len(then[4]) < len(now[4]):
            now = then
            in_vain = 0
    return now
