"""Drawings, wrong things and helpers that several tests use."""

import itertools
import random

# Nothing in this tuple is a place, a number of a crossing or a side of any drawing below.
JUNK = (None, True, False, "", "0", "ab", -1, 19, 10 ** 30, 10 ** 5000, (), (0,), (0, 1), (None,),
        (True,), ((),), (0, 1, 2), (("a",),), ((((((((((),),),),),),),),),))

ONE_PLACE = (1, (), ((),), (), ())
TEN_PLACES = (10, (), ((),) * 10, (), ())

# Four places on a circle, all tied: the ties (0, 2) and (1, 3) cross.
ROUND_FOUR = (
    4,
    ((0, 1), (0, 2), (0, 3), (1, 2), (1, 3), (2, 3)),
    ((1, 2, 3), (0, 2, 3), (0, 1, 3), (0, 1, 2)),
    ((), (0,), (), (), (0,), ()),
    (((0, 2), (1, 3), 1),),
)
# The same with the other side: it cannot be drawn on a ball, but is a drawing.
FALLEN_FOUR = ROUND_FOUR[:4] + ((((0, 2), (1, 3), 0),),)

TWICE = (
    4,
    ((0, 1), (2, 3)),
    ((1,), (0,), (3,), (2,)),
    ((0, 1), (0, 1)),
    (((0, 1), (2, 3), 1), ((0, 1), (2, 3), 0)),
)
COMMON_PLACE = (
    3,
    ((0, 1), (0, 2)),
    ((1, 2), (0,), (0,)),
    ((0,), (0,)),
    (((0, 1), (0, 2), 0),),
)
# Three ties that cross each other, and a place without ties.
THREE_TIES = (
    7,
    ((0, 3), (1, 4), (2, 5)),
    ((3,), (4,), (5,), (0,), (1,), (2,), ()),
    ((0, 1), (0, 2), (1, 2)),
    (((0, 3), (1, 4), 0), ((0, 3), (2, 5), 0), ((1, 4), (2, 5), 0)),
)
PLAIN_DRAWINGS = (ONE_PLACE, TEN_PLACES, ROUND_FOUR, FALLEN_FOUR, TWICE, COMMON_PLACE, THREE_TIES)


def all_ties(n):
    """All ties of n places, rising."""
    return tuple(itertools.combinations(range(n), 2))


EIGHTEEN = all_ties(7)[:18]

FOUR_TIED = (4, all_ties(4))
FIVE_TIED = (5, all_ties(5))
SIX_TIED = (6, all_ties(6))
THREE_TO_THREE = (6, tuple((i, j) for i in range(3) for j in range(3, 6)))
# Two rings of five places, the one tied by a star: ten places, fifteen ties, each place with three.
PETERSEN = (10, tuple(sorted([tuple(sorted((i, (i + 1) % 5))) for i in range(5)]
                             + [(i, i + 5) for i in range(5)]
                             + [tuple(sorted((i + 5, (i + 2) % 5 + 5))) for i in range(5)])))

FLAT_WEBS = (
    (1, ()), (10, ()), (2, ((0, 1),)), (3, all_ties(3)), FOUR_TIED, (5, all_ties(5)[1:]),
    (10, tuple((i, i + 1) for i in range(9)) + ((0, 9),)), (6, THREE_TO_THREE[1][1:]),
    (10, tuple((0, j) for j in range(1, 10))),
    # Six places, each tied to all but the opposite one; and a box of eight places.
    (6, tuple(tie for tie in all_ties(6) if tie not in ((0, 1), (2, 3), (4, 5)))),
    (8, tuple((i, j) for i, j in all_ties(8) if (i ^ j) in (1, 2, 4))),
)
OTHER_WEBS = (FIVE_TIED, THREE_TO_THREE, SIX_TIED, PETERSEN, (7, EIGHTEEN), (6, all_ties(6)[2:]), (10, EIGHTEEN))


def any_web(chance, most_places=10, most_ties=18):
    """A web by a random.Random."""
    n = chance.randint(1, most_places)
    ties = all_ties(n)
    return (n, tuple(sorted(chance.sample(ties, min(len(ties), chance.randint(0, most_ties))))))


def led_over(web, *some):
    """A web with each of some ties led over a new place of its own."""
    n, ties = web
    for i, j in some:
        ties = tuple(tie for tie in ties if tie != (i, j)) + ((i, n), (j, n))
        n += 1
    return (n, tuple(sorted(ties)))


def named_anew(web, chance):
    """The same web with its places named in another turn."""
    n, ties = web
    names = list(range(n))
    chance.shuffle(names)
    return (n, tuple(sorted(tuple(sorted((names[i], names[j]))) for i, j in ties)))


def any_drawing(chance):
    """A drawing, which need not stand and need not be plain, by a random.Random."""
    n, ties = any_web(chance)
    rings = []
    for place in range(n):
        ring = [i + j - place for i, j in ties if place in (i, j)]
        chance.shuffle(ring)
        rings.append(tuple(ring))
    crossings = []
    if len(ties) > 1:
        for each in range(chance.randint(0, 12)):
            one, other = sorted(chance.sample(ties, 2))
            crossings.append((one, other, chance.randint(0, 1)))
    ways = []
    for tie in ties:
        way = [number for number, crossing in enumerate(crossings) if tie in crossing[:2]]
        chance.shuffle(way)
        ways.append(tuple(way))
    return n, ties, tuple(rings), tuple(ways), tuple(crossings)


def some_drawings(many):
    """The drawings of PLAIN_DRAWINGS and many others, the same each time."""
    chance = random.Random(7)
    return list(PLAIN_DRAWINGS) + [any_drawing(chance) for each in range(many)]


def told_otherwise(drawing, chance):
    """The same drawing with rings begun anywhere and crossings numbered anyhow."""
    n, ties, rings, ways, crossings = drawing
    numbers = list(range(len(crossings)))
    chance.shuffle(numbers)
    begun = []
    for ring in rings:
        at = chance.randint(0, len(ring))
        begun.append(ring[at:] + ring[:at])
    moved = [None] * len(crossings)
    for old, crossing in enumerate(crossings):
        moved[numbers[old]] = crossing
    return n, ties, tuple(begun), tuple(tuple(numbers[old] for old in way) for way in ways), tuple(moved)


def changed(thing, new_ones):
    """Each tuple that comes of a thing by changing one spot in it, at each depth.

    new_ones(spot) tells what is put in the place of a spot. A change that leaves the thing as it was is
    left out; True in the place of 1 is a change, though the two are equal.
    """
    for new in new_ones(thing):
        if repr_of(new) != repr_of(thing):
            yield new
    if isinstance(thing, tuple):
        for at, spot in enumerate(thing):
            for new in changed(spot, new_ones):
                yield thing[:at] + (new,) + thing[at + 1:]


def repr_of(thing):
    """A text by which unlike things are told apart, very great numbers too."""
    if isinstance(thing, tuple):
        return "(" + "".join(repr_of(item) + "," for item in thing) + ")"
    if type(thing) is int:
        return hex(thing)
    return repr(thing)


def is_of_wholes(thing):
    """Whether a thing is made of tuples and ints themselves, of no class under these."""
    if type(thing) is tuple:
        return all(is_of_wholes(item) for item in thing)
    return type(thing) is int


def any_points(chance, n, far=30):
    """As many unlike points as told, by a random.Random."""
    points = []
    while len(points) < n:
        point = (chance.randint(-far, far), chance.randint(-far, far))
        if point not in points:
            points.append(point)
    return tuple(points)
