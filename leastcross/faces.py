"""Faces: the steps along the pieces of a drawing, the faces at their left, and whether the drawing stands."""

from leastcross.webs import parts


def across(drawing, step):
    """Tell the other step of the piece of a step."""
    i, j, k = step
    return (j, i, len(way_from(drawing, i, j)) - k)


def way_from(drawing, i, j):
    """Tell the numbers of the crossings on the tie of i and j, as they come from i to j."""
    ties, ways = drawing[1], drawing[3]
    way = ways[ties.index((min(i, j), max(i, j)))]
    return way if i < j else way[::-1]


def behind(drawing, step):
    """Tell the step that comes behind a step, as far to the left as can be."""
    i, j, k = step
    way = way_from(drawing, i, j)
    if k < len(way):
        return off_to_the_left(drawing, i, j, way[k])
    ring = drawing[2][j]
    # Ahead of the first place stands the last one: so Python counts from -1 too.
    return (j, ring[ring.index(i) - 1], 0)


def off_to_the_left(drawing, i, j, number):
    """Tell the step that goes off to the left at a crossing, for who comes along from i towards j."""
    one, other, side = drawing[4][number]
    along_one = one == (min(i, j), max(i, j))
    crossed = other if along_one else one
    # Forward along one, with side 1, other goes on to the left. Another side, going back, and going along
    # other (which one then goes over from left to right) each turn this about.
    forward = (side == 1) == ((i < j) == along_one)
    start, end = crossed if forward else crossed[::-1]
    return (start, end, way_from(drawing, start, end).index(number) + 1)


def faces(drawing):
    """Tell all faces of a drawing, rising; places without ties have none here."""
    found = []
    seen = set()
    # Steps are begun with as they rise: so each face begins with its least step, and the faces rise.
    for step in steps_of(drawing):
        if step not in seen:
            face = face_from(drawing, step)
            found.append(face)
            for passed in face:
                seen.add(passed)
    return tuple(found)


def steps_of(drawing):
    """Tell all steps of a drawing, rising, two for each piece."""
    steps = []
    for (i, j), way in zip(drawing[1], drawing[3]):
        for k in range(len(way) + 1):
            steps.append((i, j, k))
            steps.append((j, i, k))
    return sorted(steps)


def face_from(drawing, first):
    """Tell the steps of the face at the left of a step, beginning with this step."""
    face = [first]
    step = behind(drawing, first)
    while step != first:
        face.append(step)
        step = behind(drawing, step)
    return tuple(face)


def stands(drawing):
    """Tell whether a drawing can be drawn on a ball."""
    n, ties, rings, ways, crossings = drawing
    stops = n + len(crossings)
    pieces = sum([len(way) + 1 for way in ways])
    lone_places = len([ring for ring in rings if not ring])
    many_faces = len(faces(drawing)) + lone_places
    return stops - pieces + many_faces == 2 * len(joined_places(drawing))


def joined_places(drawing):
    """Tell the places of each part of a drawing; each crossing is in the part of its two ties."""
    n, ties, rings, ways, crossings = drawing
    joined_by_crossings = tuple((one[0], other[0]) for one, other, side in crossings)
    return parts((n, ties + joined_by_crossings))
