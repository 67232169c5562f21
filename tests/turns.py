"""Steps and the turning of pieces about their stops: other means than the program's."""


def steps_by_words(drawing):
    """Point 10: two steps for each piece."""
    steps = []
    for (i, j), way in zip(drawing[1], drawing[3]):
        for k in range(len(way) + 1):
            steps += [(i, j, k), (j, i, k)]
    return sorted(steps)


class Turns:
    """A drawing as stops with the pieces that leave them, going round to the left: other means than steps.

    A piece that leaves a stop is told as (i, j, at): along the tie of i and j, towards j, its stop number at
    (counted from i) being the one that it leaves.
    """

    def __init__(self, drawing):
        self.drawing = drawing
        n, ties, rings, ways, crossings = drawing
        self.stops = {tie: [("place", tie[0])] + [("crossing", number) for number in way] + [("place", tie[1])]
                      for tie, way in zip(ties, ways)}
        self.round = {("place", place): [(place, other, 0) for other in ring] for place, ring in enumerate(rings)}
        for number, (one, other, side) in enumerate(crossings):
            stop = ("crossing", number)
            on, over = self.leaving(one, stop), self.leaving(other, stop)
            # Going along one upwards: with side 1 other goes on to the left.
            left, right = (over[0], over[1]) if side == 1 else (over[1], over[0])
            self.round[stop] = [on[0], left, on[1], right]

    def leaving(self, tie, stop):
        """The two pieces of a tie that leave a stop: forward and back."""
        stops = self.stops[tie]
        at = stops.index(stop)
        return (tie[0], tie[1], at), (tie[1], tie[0], len(stops) - 1 - at)

    def ends_at(self, step):
        i, j, k = step
        stops = self.stops[min(i, j), max(i, j)]
        return stops[k + 1] if i < j else stops[len(stops) - 2 - k]

    def turned_about(self, step):
        i, j, k = step
        return (j, i, len(self.stops[min(i, j), max(i, j)]) - 2 - k)

    def behind(self, step):
        """As far to the left as can be: of those that leave, the one just ahead of the way that one came."""
        leaving = self.round[self.ends_at(step)]
        return leaving[leaving.index(self.turned_about(step)) - 1]

    def many_faces(self):
        left = set(steps_by_words(self.drawing))
        many = 0
        while left:
            first = step = min(left)
            many += 1
            while True:
                left.remove(step)
                step = self.behind(step)
                if step == first:
                    break
        return many + sum(1 for leaving in self.round.values() if not leaving)

    def many_parts(self):
        part_of = {stop: stop for stop in self.round}
        for stops in self.stops.values():
            for stop, then in zip(stops, stops[1:]):
                old, new = part_of[stop], part_of[then]
                part_of = {each: new if part == old else part for each, part in part_of.items()}
        return len(set(part_of.values()))

    def sum_of(self):
        """Stops less pieces, with the faces put to it."""
        pieces = sum(len(stops) - 1 for stops in self.stops.values())
        return len(self.round) - pieces + self.many_faces()
