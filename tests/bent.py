"""Drawings whose ties are bent lines, read off with fractions and angles: other means than the program's.

A tie is a tuple of points, its first one the point of its lesser place, its last one that of its greater place.
Such a drawing can be drawn, so it stands; two ties may cross several times, and with a common place.
"""

import math
import random
from fractions import Fraction

from samples import any_points, any_web


def cross(u, v):
    return u[0] * v[1] - u[1] * v[0]


def from_to(a, b):
    return (b[0] - a[0], b[1] - a[1])


def meeting(a, b, c, d):
    """Where the stretches a b and c d meet: (share of a b, share of c d), None, or "bad" for a touch."""
    along, other = from_to(a, b), from_to(c, d)
    turn = cross(along, other)
    if turn == 0:
        if cross(along, from_to(a, c)) != 0:
            return None
        low, high = sorted((a, b)), sorted((c, d))
        return None if low[1] < high[0] or high[1] < low[0] else "bad"
    s = Fraction(cross(from_to(a, c), other), turn)
    t = Fraction(cross(from_to(a, c), along), turn)
    if not (0 <= s <= 1 and 0 <= t <= 1):
        return None
    return (s, t) if 0 < s < 1 and 0 < t < 1 else "bad"


def stretches(line):
    return list(zip(line, line[1:]))


def comes_to_itself(line):
    parts = stretches(line)
    for at, (a, b) in enumerate(parts):
        for later, (c, d) in enumerate(parts[at + 1:], at + 1):
            if later == at + 1:
                if cross(from_to(a, b), from_to(c, d)) == 0:
                    return True
            elif meeting(a, b, c, d) is not None:
                return True
    return False


class Bent:
    """The lines of a web, with what is read off them; fits is False where they touch otherwise than by crossing."""

    def __init__(self, web, lines):
        self.n, self.ties = web
        self.lines = lines
        self.points = {}
        self.found = []
        self.fits = not any(comes_to_itself(lines[tie]) for tie in self.ties)
        for i, j in self.ties:
            self.points[i], self.points[j] = lines[i, j][0], lines[i, j][-1]
        for at, one in enumerate(self.ties):
            for other in self.ties[at + 1:]:
                self.meet(one, other)
        self.fits = self.fits and self.no_three_meet() and self.no_place_on_a_tie()

    def meet(self, one, other):
        for p, (a, b) in enumerate(stretches(self.lines[one])):
            for q, (c, d) in enumerate(stretches(self.lines[other])):
                met = meeting(a, b, c, d)
                if met == "bad" and self.is_common_place(one, other, (a, b), (c, d)):
                    continue
                if met == "bad":
                    self.fits = False
                elif met is not None:
                    side = 1 if cross(from_to(a, b), from_to(c, d)) > 0 else 0
                    self.found.append({"ties": (one, other), "side": side, one: p + met[0], other: q + met[1]})

    def is_common_place(self, one, other, first, second):
        """Whether two stretches touch at a common place of their ties, and nowhere else."""
        for place in set(one) & set(other):
            point = self.points[place]
            if point in first and point in second:
                u = from_to(point, first[0] if first[1] == point else first[1])
                v = from_to(point, second[0] if second[1] == point else second[1])
                return cross(u, v) != 0 or u[0] * v[0] + u[1] * v[1] < 0
        return False

    def on(self, tie):
        """The numbers of the crossings on a tie, as they come."""
        numbers = [number for number, each in enumerate(self.found) if tie in each["ties"]]
        return tuple(sorted(numbers, key=lambda number: self.found[number][tie]))

    def no_three_meet(self):
        for tie in self.ties:
            spots = [self.found[number][tie] for number in self.on(tie)]
            if len(spots) != len(set(spots)):
                return False
        return True

    def no_place_on_a_tie(self):
        for tie in self.ties:
            for place, point in self.points.items():
                if place not in tie:
                    for a, b in stretches(self.lines[tie]):
                        if meeting(a, b, point, (point[0], point[1] + Fraction(1, 10 ** 9))) == "bad":
                            return False
        return True

    def heading(self, i, j):
        """The angle at which the tie of i and j leaves i."""
        line = self.lines[min(i, j), max(i, j)]
        first, then = (line[0], line[1]) if i < j else (line[-1], line[-2])
        u = from_to(first, then)
        return math.atan2(u[1], u[0])

    def drawing(self):
        rings = []
        for place in range(self.n):
            tied = [i + j - place for i, j in self.ties if place in (i, j)]
            rings.append(tuple(sorted(tied, key=lambda other: self.heading(place, other))))
        return (self.n, self.ties, tuple(rings), tuple(self.on(tie) for tie in self.ties),
                tuple((*each["ties"], each["side"]) for each in self.found))

    def stops(self, i, j):
        """The stops of the tie of i and j, from i to j."""
        found = [("place", min(i, j))] + [("crossing", number) for number in self.on((min(i, j), max(i, j)))]
        found.append(("place", max(i, j)))
        return found if i < j else found[::-1]

    def direction(self, i, j, number):
        """In which direction one goes at a crossing, from i to j."""
        tie = (min(i, j), max(i, j))
        a, b = stretches(self.lines[tie])[int(self.found[number][tie])]
        return from_to(a, b) if i < j else from_to(b, a)

    def behind(self, step):
        """The step behind a step, found by angles."""
        i, j, k = step
        kind, at = self.stops(i, j)[k + 1]
        if kind == "place":
            back = self.heading(j, i)
            tied = [one + other - j for one, other in self.ties if j in (one, other)]
            full = 2 * math.pi
            # As far to the left as can be: the first tie met going round to the right from where one came.
            turn = {other: (back - self.heading(j, other)) % full or full for other in tied}
            turn[i] = full
            return (j, min(tied, key=lambda other: turn[other]), 0)
        ours = (min(i, j), max(i, j))
        other = [tie for tie in self.found[at]["ties"] if tie != ours][0]
        came = self.direction(i, j, at)
        for start, end in (other, other[::-1]):
            if cross(came, self.direction(start, end, at)) > 0:
                return (start, end, self.stops(start, end).index(("crossing", at)))


def bent_of(chance, web, most_bends=2, far=40):
    """Bent lines of a web, by a random.Random: tried until they fit."""
    while True:
        points = any_points(chance, web[0], far)
        lines = {}
        for i, j in web[1]:
            bends = any_points(chance, chance.randint(0, most_bends), far)
            lines[i, j] = (points[i],) + bends + (points[j],)
        if all(a != b for line in lines.values() for a, b in zip(line, line[1:])):
            bent = Bent(web, lines)
            if bent.fits:
                return bent


def some_bent(many, most_places=7, most_ties=9):
    """Bent lines of many webs, the same each time."""
    chance = random.Random(11)
    return [bent_of(chance, any_web(chance, most_places, most_ties)) for each in range(many)]
