"""Drawings that stand, the same each time, in which ties cross again and again, also with a common place."""

import random

from bent import bent_of, some_bent
from leastcross.errors import NoRoute
from leastcross.faces import across, faces
from leastcross.flat import flat
from leastcross.routes import best, put
from samples import (COMMON_PLACE, FOUR_TIED, ONE_PLACE, ROUND_FOUR, TEN_PLACES, THREE_TO_THREE, TWICE, all_ties,
                     told_otherwise)

SMALL = (ONE_PLACE, TEN_PLACES, ROUND_FOUR, TWICE, COMMON_PLACE, flat((2, ((0, 1),))), flat(FOUR_TIED),
         flat((6, THREE_TO_THREE[1][1:])), flat((9, ((0, 3), (0, 6), (1, 4), (1, 7), (3, 6), (4, 7)))))


def walked(chance, drawing, tie, many_steps):
    """The drawing with a tie put in by a route over so many pieces, by chance; None where it does not stand."""
    i, j = tie
    rings = drawing[2]
    all_faces = faces(drawing)
    face_of = {step: face for face in all_faces for step in face}
    start = chance.choice(rings[i]) if rings[i] else None
    steps = []
    face = face_of[i, start, 0] if rings[i] else chance.choice(all_faces or [()])
    for each in range(many_steps if face else 0):
        step = chance.choice(face)
        steps.append(step)
        face = face_of[across(drawing, step)]
    spots = [b for a, b, k in face if a == j and k == 0] or list(rings[j]) or [None]
    try:
        return put(drawing, tie, (start, tuple(steps), chance.choice(spots)))
    except NoRoute:
        return None


def wandered(chance, n, many, most_steps=6):
    """A drawing of many ties, each put in by a route that goes over pieces by chance."""
    drawing = (n, (), ((),) * n, (), ())
    ties = chance.sample(all_ties(n), many)
    for tie in ties:
        # The longer the route, the seldomer it stands: so shorter ones are tried too, and a best one at last.
        tried = (walked(chance, drawing, tie, most_steps - each // 10) for each in range(10 * most_steps))
        drawing = next((made for made in tried if made), None) or put(drawing, tie, best(drawing, tie)[0])
    return drawing


def some_wandered(many, most_places=10, most_ties=18, most_steps=6, seed=81):
    chance = random.Random(seed)
    found = []
    for each in range(many):
        n = chance.randint(2, most_places)
        ties = chance.randint(1, min(most_ties, len(all_ties(n))))
        found.append(told_otherwise(wandered(chance, n, ties, most_steps), chance))
    return found


def great_bent(many, seed=82):
    """Ten places and eighteen ties, as bent lines that cross each other very often."""
    chance = random.Random(seed)
    return [bent_of(chance, (10, tuple(sorted(chance.sample(all_ties(10), 18)))), 3, 1000) for each in range(many)]


def some_standing(many=60):
    """Drawings that stand, with rings begun anywhere and crossings numbered anyhow."""
    chance = random.Random(83)
    found = list(SMALL) + [bent.drawing() for bent in some_bent(many)] + some_wandered(many)
    return [told_otherwise(drawing, chance) for drawing in found]


def parts_by_words(drawing):
    """Point 13 for places: (place: name of its part), two being in one part where pieces lead from one to the other."""
    n, ties, rings, ways, crossings = drawing
    name = {place: place for place in range(n)}
    joins = list(ties) + [(one[0], other[0]) for one, other, side in crossings]
    for each in range(n):
        for i, j in joins:
            name[i] = name[j] = min(name[i], name[j])
    return name


def free_ties(drawing):
    return [tie for tie in all_ties(drawing[0]) if tie not in drawing[1]]


def crossings_on(drawing, tie):
    return len(drawing[3][drawing[1].index(tie)])


def crosses_again(drawing):
    """Whether two ties cross more than once, or two with a common place at all."""
    met = [crossing[:2] for crossing in drawing[4]]
    return len(met) != len(set(met)) or any(set(one) & set(other) for one, other in met)
