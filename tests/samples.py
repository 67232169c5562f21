"""Drawings, wrong things and helpers that several tests use."""

import random

# Nothing in this tuple is a place, a number of a crossing or a side of any drawing below.
JUNK = (None, True, False, "", "0", "ab", -1, 19, 10 ** 30, 10 ** 5000, (), (0,), (0, 1), (None,),
        (True,), ((),), (0, 1, 2), (("a",),), ((((((((((),),),),),),),),),))

ONE_PLACE = (1, (), ((),), (), ())
TEN_PLACES = (10, (), ((),) * 10, (), ())

# Four places on a circle, all tied: the ties (0, 2) and (1, 3) cross.
ROUND_FOUR = (
    4,
    ((0, 1), (0, 2), (0, 3), (1, 2), (1, 3), (2, 3)),
    ((1, 2, 3), (0, 2, 3), (0, 1, 3), (0, 1, 2)),
    ((), (0,), (), (), (0,), ()),
    (((0, 2), (1, 3), 1),),
)
# The same with the other side: it cannot be drawn on a ball, but is a drawing.
FALLEN_FOUR = ROUND_FOUR[:4] + ((((0, 2), (1, 3), 0),),)

TWICE = (
    4,
    ((0, 1), (2, 3)),
    ((1,), (0,), (3,), (2,)),
    ((0, 1), (0, 1)),
    (((0, 1), (2, 3), 1), ((0, 1), (2, 3), 0)),
)
COMMON_PLACE = (
    3,
    ((0, 1), (0, 2)),
    ((1, 2), (0,), (0,)),
    ((0,), (0,)),
    (((0, 1), (0, 2), 0),),
)
# Three ties that cross each other, and a place without ties.
THREE_TIES = (
    7,
    ((0, 3), (1, 4), (2, 5)),
    ((3,), (4,), (5,), (0,), (1,), (2,), ()),
    ((0, 1), (0, 2), (1, 2)),
    (((0, 3), (1, 4), 0), ((0, 3), (2, 5), 0), ((1, 4), (2, 5), 0)),
)
PLAIN_DRAWINGS = (ONE_PLACE, TEN_PLACES, ROUND_FOUR, FALLEN_FOUR, TWICE, COMMON_PLACE, THREE_TIES)

EIGHTEEN = tuple((i, j) for i in range(7) for j in range(i + 1, 7))[:18]


def any_drawing(chance):
    """A drawing, which need not stand and need not be plain, by a random.Random."""
    n = chance.randint(1, 10)
    all_ties = [(i, j) for i in range(n) for j in range(i + 1, n)]
    ties = tuple(sorted(chance.sample(all_ties, min(len(all_ties), chance.randint(0, 18)))))
    rings = []
    for place in range(n):
        ring = [i + j - place for i, j in ties if place in (i, j)]
        chance.shuffle(ring)
        rings.append(tuple(ring))
    crossings = []
    if len(ties) > 1:
        for each in range(chance.randint(0, 12)):
            one, other = sorted(chance.sample(ties, 2))
            crossings.append((one, other, chance.randint(0, 1)))
    ways = []
    for tie in ties:
        way = [number for number, crossing in enumerate(crossings) if tie in crossing[:2]]
        chance.shuffle(way)
        ways.append(tuple(way))
    return n, ties, tuple(rings), tuple(ways), tuple(crossings)


def some_drawings(many):
    """The drawings of PLAIN_DRAWINGS and many others, the same each time."""
    chance = random.Random(7)
    return list(PLAIN_DRAWINGS) + [any_drawing(chance) for each in range(many)]


def told_otherwise(drawing, chance):
    """The same drawing with rings begun anywhere and crossings numbered anyhow."""
    n, ties, rings, ways, crossings = drawing
    numbers = list(range(len(crossings)))
    chance.shuffle(numbers)
    begun = []
    for ring in rings:
        at = chance.randint(0, len(ring))
        begun.append(ring[at:] + ring[:at])
    moved = [None] * len(crossings)
    for old, crossing in enumerate(crossings):
        moved[numbers[old]] = crossing
    return n, ties, tuple(begun), tuple(tuple(numbers[old] for old in way) for way in ways), tuple(moved)


def changed(thing, new_ones):
    """Each tuple that comes of a thing by changing one spot in it, at each depth.

    new_ones(spot) tells what is put in the place of a spot. A change that leaves the thing as it was is
    left out; True in the place of 1 is a change, though the two are equal.
    """
    for new in new_ones(thing):
        if repr_of(new) != repr_of(thing):
            yield new
    if isinstance(thing, tuple):
        for at, spot in enumerate(thing):
            for new in changed(spot, new_ones):
                yield thing[:at] + (new,) + thing[at + 1:]


def repr_of(thing):
    """A text by which unlike things are told apart, very great numbers too."""
    if isinstance(thing, tuple):
        return "(" + "".join(repr_of(item) + "," for item in thing) + ")"
    if type(thing) is int:
        return hex(thing)
    return repr(thing)


def is_of_wholes(thing):
    """Whether a thing is made of tuples and ints themselves, of no class under these."""
    if type(thing) is tuple:
        return all(is_of_wholes(item) for item in thing)
    return type(thing) is int
