"""Routes: points 23 to 28, with points 2 and 3 where they are about them."""

import itertools
import random
import time
import unittest

from bent import Bent, cross, some_bent
from leastcross.drawings import count, is_drawing, plain
from leastcross.errors import CrossError, NoRoute, NoTie
from leastcross.faces import across, faces, stands
from leastcross.flat import flat
from leastcross.must import must
from leastcross.odd import odd_set
from leastcross.routes import best, led, levels_show, put, settled, without
from samples import (COMMON_PLACE, FOUR_TIED, JUNK, ONE_PLACE, ROUND_FOUR, TEN_PLACES, TWICE, all_ties,
                     changed, is_of_wholes, repr_of, told_otherwise)
from standing import (crosses_again, crossings_on, free_ties, great_bent, parts_by_words, some_standing,
                      some_wandered, wandered)

STANDING = some_standing()
SMALL_ONES = [drawing for drawing in STANDING if sum(len(way) + 1 for way in drawing[3]) <= 9]
CROSSED = [drawing for drawing in STANDING if crosses_again(drawing)]

# A tie with a third place beside it, and two ties apart.
BESIDE = flat((3, ((0, 1),)))
TWO_TIES = flat((4, ((0, 1), (2, 3))))


def steps_of(drawing):
    return [step for (i, j), way in zip(drawing[1], drawing[3]) for k in range(len(way) + 1)
            for step in ((i, j, k), (j, i, k))]


def put_by_words(drawing, tie, route):
    """Point 24, word by word; what comes need not stand."""
    n, ties, rings, ways, crossings = drawing
    start, steps, end = route
    rings = [list(ring) for ring in rings]
    for place, spot, new in ((tie[0], start, tie[1]), (tie[1], end, tie[0])):
        rings[place].insert(0 if spot is None else rings[place].index(spot) + 1, new)
    crossings = list(crossings)
    laid = {each: [[]] + [item for number in way for item in (number, [])] for each, way in zip(ties, ways)}
    own = []
    for a, b, k in steps:
        crossed = tuple(sorted((a, b)))
        spot = 2 * k if a < b else len(laid[crossed]) - 1 - 2 * k
        laid[crossed][spot].append(len(crossings))
        own.append(len(crossings))
        # From the left of the step to its right; where the step goes back, that is from the tie's right.
        over = {True: "left to right", False: "right to left"}[a < b]
        if crossed < tie:
            crossings.append((crossed, tie, 1 if over == "right to left" else 0))
        else:
            crossings.append((tie, crossed, 0 if over == "right to left" else 1))
    way_of = {each: sum((item if isinstance(item, list) else [item] for item in row), []) for each, row in laid.items()}
    way_of[tie] = own
    web = sorted(way_of)
    return plain((n, tuple(web), tuple(map(tuple, rings)), tuple(tuple(way_of[each]) for each in web),
                  tuple(crossings)))


def without_by_words(drawing, tie):
    """Point 25, word by word."""
    n, ties, rings, ways, crossings = drawing
    left = [number for number, crossing in enumerate(crossings) if tie not in crossing[:2]]
    rings = [tuple(other for other in ring if tuple(sorted((place, other))) != tie) for place, ring in enumerate(rings)]
    ways = [tuple(left.index(number) for number in way if number in left)
            for each, way in zip(ties, ways) if each != tie]
    return plain((n, tuple(each for each in ties if each != tie), tuple(rings), tuple(ways),
                  tuple(crossings[number] for number in left)))


def levels_by_words(drawing, tie):
    """Point 26: the levels, by putting them down until nothing changes; None for places in unlike parts."""
    part = parts_by_words(drawing)
    i, j = tie
    if part[i] != part[j]:
        return None
    told = faces(drawing)
    number_of = {step: number for number, face in enumerate(told) for step in face}
    levels = [0 if any(a == i and k == 0 for a, b, k in face) else len(told) for face in told]
    beside = [(number, number_of[across(drawing, step)]) for step, number in number_of.items()]
    changing = True
    while changing:
        changing = False
        for number, other in beside:
            if levels[other] + 1 < levels[number]:
                levels[number] = levels[other] + 1
                changing = True
    return tuple(None if part[face[0][0]] != part[i] else level for face, level in zip(told, levels))


def least_level(drawing, tie):
    """How many steps a best route has."""
    levels = levels_by_words(drawing, tie)
    if levels is None:
        return 0
    return min(level for face, level in zip(faces(drawing), levels)
               if any(a == tie[1] and k == 0 for a, b, k in face))


def show_by_words(drawing, tie, number, levels):
    """Point 27, word by word, for a number that is a whole one."""
    part = parts_by_words(drawing)
    i, j = tie
    if part[i] != part[j]:
        return levels is None and number == 0
    told = faces(drawing)
    if type(levels) is not tuple or len(levels) != len(told):
        return False
    number_of = {step: at for at, face in enumerate(told) for step in face}
    for face, level in zip(told, levels):
        if part[face[0][0]] == part[i]:
            if type(level) is not int or level < 0:
                return False
        elif level is not None:
            return False
    for step, at in number_of.items():
        if part[step[0]] == part[i]:
            if abs(levels[at] - levels[number_of[across(drawing, step)]]) > 1:
                return False
            if step[0] == i and step[2] == 0 and levels[at] != 0:
                return False
            if step[0] == j and step[2] == 0 and levels[at] < number:
                return False
    return True


def spots_of(drawing, place):
    return drawing[2][place] or (None,)


def routes_with(drawing, tie, many):
    """All routes for a tie with so many steps."""
    for steps in itertools.permutations(steps_of(drawing), many):
        if len({min(step, across(drawing, step)) for step in steps}) == many:
            for start in spots_of(drawing, tie[0]):
                for end in spots_of(drawing, tie[1]):
                    yield start, steps, end


class Checked(unittest.TestCase):
    def check_drawing(self, told, web):
        self.assertIs(is_drawing(told), True)
        self.assertEqual(told[:2], web)
        self.assertEqual(plain(told), told)
        self.assertTrue(is_of_wholes(told))
        self.assertIs(stands(told), True)

    def check_refused(self, kind, call, *handed):
        ahead = repr_of(handed)
        with self.assertRaises(CrossError) as caught:
            call(*handed)
        self.assertIs(type(caught.exception), kind, ahead[-300:])
        self.assertIsInstance(caught.exception, ValueError)
        self.assertEqual(repr_of(handed), ahead)


class Put(Checked):
    """Points 23 and 24."""

    def route_read_off(self, bent, tie):
        """The route of a tie of bent lines, and the drawing without this tie, read off the lines."""
        rest = Bent((bent.n, tuple(each for each in bent.ties if each != tie)), bent.lines)
        spots = []
        for place, other in (tie, tie[::-1]):
            ring = bent.drawing()[2][place]
            spots.append(ring[ring.index(other) - 1] if len(ring) > 1 else None)
        steps = []
        for number in bent.on(tie):
            crossed = [each for each in bent.found[number]["ties"] if each != tie][0]
            earlier = bent.on(crossed)[:bent.on(crossed).index(number)]
            k = len([each for each in earlier if tie not in bent.found[each]["ties"]])
            if cross(bent.direction(*crossed, number), bent.direction(*tie, number)) < 0:
                steps.append((*crossed, k))
            else:
                steps.append((*crossed[::-1], len(rest.on(crossed)) - k))
        # Several crossings on one piece are no route: they would be several steps over it.
        return (spots[0], tuple(steps), spots[1]), rest.drawing()

    def test_ties_of_bent_lines(self):
        chance = random.Random(90)
        many = 0
        for bent in some_bent(60) + great_bent(2):
            for tie in bent.ties:
                route, rest = self.route_read_off(bent, tie)
                told = told_otherwise(rest, chance)
                if len({min(step, across(rest, step)) for step in route[1]}) == len(route[1]):
                    self.assertEqual(put(told, tie, route), plain(bent.drawing()))
                    many += 1
                else:
                    self.check_refused(NoRoute, put, told, tie, route)
        self.assertGreater(many, 120)

    def test_word_by_word(self):
        for drawing in STANDING:
            for tie in free_ties(drawing)[:8]:
                if len(drawing[1]) < 18:
                    route = best(drawing, tie)[0]
                    told = put(drawing, tie, route)
                    self.check_drawing(told, (drawing[0], tuple(sorted(drawing[1] + (tie,)))))
                    self.assertEqual(told, put_by_words(drawing, tie, route))

    def test_all_routes_of_small_drawings(self):
        kept = refused = 0
        for drawing in SMALL_ONES:
            for tie in free_ties(drawing)[:3]:
                for many in range(3 if len(steps_of(drawing)) <= 10 else 2):
                    for route in routes_with(drawing, tie, many):
                        made = put_by_words(drawing, tie, route)
                        if stands(made):
                            self.assertEqual(put(drawing, tie, route), made)
                            kept += 1
                        else:
                            self.check_refused(NoRoute, put, drawing, tie, route)
                            refused += 1
        self.assertGreater(min(kept, refused), 500)

    def test_where_it_stands_in_the_rings(self):
        star = (5, ((0, 1), (0, 2), (0, 3)), ((1, 2, 3), (0,), (0,), (0,), ()), ((), (), ()), ())
        self.assertEqual(put(star, (0, 4), (1, (), None))[2][0], (1, 4, 2, 3))
        self.assertEqual(put(star, (0, 4), (2, (), None))[2][0], (1, 2, 4, 3))
        self.assertEqual(put(star, (0, 4), (3, (), None))[2][0], (1, 2, 3, 4))
        self.assertEqual(put(star, (1, 4), (0, (), None))[2], ((1, 2, 3), (0, 4), (0,), (0,), (1,)))
        self.assertEqual(put(star, (2, 3), (0, (), 0))[2], ((1, 2, 3), (0,), (0, 3), (0, 2), ()))

    def test_places_without_ties(self):
        self.assertEqual(put(TEN_PLACES, (3, 7), (None, (), None)), flat((10, ((3, 7),))))
        self.assertEqual(put(BESIDE, (1, 2), (0, (), None)), flat((3, ((0, 1), (1, 2)))))

    def test_sides(self):
        # Over the tie (0, 1) from its left to its right, and from its right to its left.
        self.assertEqual(put(flat((4, ((0, 1),))), (2, 3), (None, ((0, 1, 0),), None)),
                         (4, ((0, 1), (2, 3)), ((1,), (0,), (3,), (2,)), ((0,), (0,)), (((0, 1), (2, 3), 0),)))
        self.assertEqual(put(flat((4, ((0, 1),))), (2, 3), (None, ((1, 0, 0),), None))[4], (((0, 1), (2, 3), 1),))
        self.assertEqual(put(flat((4, ((2, 3),))), (0, 1), (None, ((2, 3, 0),), None))[4], (((0, 1), (2, 3), 1),))
        self.assertEqual(put(flat((4, ((2, 3),))), (0, 1), (None, ((3, 2, 0),), None))[4], (((0, 1), (2, 3), 0),))

    def test_several_steps_over_one_tie(self):
        # One piece alone can't be gone over twice; where the tie has two pieces both can.
        crossed = (6, ((0, 1), (2, 3)), ((1,), (0,), (3,), (2,), (), ()), ((0,), (0,)), (((0, 1), (2, 3), 1),))
        told = put(crossed, (4, 5), (None, ((0, 1, 0), (1, 0, 0)), None))
        self.check_drawing(told, (6, ((0, 1), (2, 3), (4, 5))))
        self.assertEqual(told[3], ((0, 1, 2), (1,), (0, 2)))
        self.assertEqual([crossing[2] for crossing in told[4]], [0, 1, 1])
        # Round about the crossing, over all four pieces.
        told = put(crossed, (4, 5), (None, ((0, 1, 0), (2, 3, 0), (1, 0, 0), (3, 2, 0)), None))
        self.check_drawing(told, (6, ((0, 1), (2, 3), (4, 5))))
        self.assertEqual(told[3], ((0, 1, 2), (3, 1, 4), (0, 3, 2, 4)))

    def test_over_a_tie_with_a_common_place(self):
        told = put(flat((3, ((0, 1),))), (0, 2), (1, ((1, 0, 0),), None))
        self.check_drawing(told, (3, ((0, 1), (0, 2))))
        self.assertEqual(told[4], (((0, 1), (0, 2), 1),))
        self.assertEqual(put(flat((3, ((0, 1),))), (0, 2), (1, ((0, 1, 0),), None))[4], (((0, 1), (0, 2), 0),))

    def test_between_unlike_parts(self):
        # Also over pieces of one part, of the other one, and of a third one.
        three = flat((6, ((0, 1), (2, 3), (4, 5))))
        for steps in ((), ((0, 1, 0),), ((1, 0, 0),), ((2, 3, 0),), ((4, 5, 0),), ((0, 1, 0), (4, 5, 0), (3, 2, 0))):
            told = put(three, (0, 2), (1, steps, 3))
            self.check_drawing(told, (6, ((0, 1), (0, 2), (2, 3), (4, 5))))
            self.assertEqual(told, put_by_words(three, (0, 2), (1, steps, 3)))
            self.assertEqual(count(told), len(steps))

    def test_no_tie(self):
        for wrong in ((0, 1), (1, 0), (3, 2), (0, 0), (2, 2), (0, 4), (-1, 2), (0, -1), (0,), (0, 1, 2), (), (0, True),
                      (False, 2), (True, 2), ("0", 2), (0, "2"), (0, None), [0, 2], (0, (2,)), "02", 2, (2, 0)) + JUNK:
            if wrong != (0, 2):
                self.check_refused(NoTie, put, TWICE, wrong, (1, (), 3))
                self.check_refused(NoTie, best, TWICE, wrong)

    def test_no_tie_ahead_of_no_route(self):
        for wrong in ((0, 1), (1, 0), (0, 0), (0, 4), None, (0, True)):
            self.check_refused(NoTie, put, TWICE, wrong, None)
            self.check_refused(NoTie, put, TWICE, wrong, (None, (), None))

    def test_a_nineteenth_tie(self):
        full = [drawing for drawing in STANDING if len(drawing[1]) == 18 and free_ties(drawing)]
        full += [bent.drawing() for bent in great_bent(1)]
        self.assertGreater(len(full), 1)
        for drawing in full:
            for tie in free_ties(drawing):
                self.check_refused(NoTie, put, drawing, tie, None)
                self.check_refused(NoTie, best, drawing, tie)
            rest = without(drawing, drawing[1][3])
            self.assertEqual(len(put(rest, free_ties(rest)[0], best(rest, free_ties(rest)[0])[0])[1]), 18)

    def test_no_route(self):
        self.check_drawing(put(TWICE, (0, 2), (1, (), 3)), (4, ((0, 1), (0, 2), (2, 3))))
        for wrong in JUNK + ((1, ()), (1, (), 3, 3), (1, [], 3), [1, (), 3], (1, None, 3), (1, "", 3), (1, 0, 3)):
            self.check_refused(NoRoute, put, TWICE, (0, 2), wrong)
        for spot in (0, 2, 3, 4, -1, None, True, False, "1", (1,), ()):
            self.check_refused(NoRoute, put, TWICE, (0, 2), (spot, (), 3))
        for spot in (0, 1, 2, 4, -1, None, True, "3", (3,)):
            self.check_refused(NoRoute, put, TWICE, (0, 2), (1, (), spot))
        for step in JUNK + ((0, 2, 0), (0, 0, 0), (0, 1, -1), (0, 1, 3), (0, 1, True), (False, 1, 0), (0, True, 0),
                            (0, 1), (0, 1, 0, 0), [0, 1, 0], (0, 1, "0"), (0, 1, None), (0, 4, 0), (5, 6, 0)):
            if step == (0, 1, 2):
                continue
            self.check_refused(NoRoute, put, TWICE, (0, 2), (1, (step,), 3))

    def test_spots_where_rings_are_without_places(self):
        for spot in (0, 1, 2, True, False, (), "", -1):
            self.check_refused(NoRoute, put, BESIDE, (0, 2), (1, (), spot))
            self.check_refused(NoRoute, put, TEN_PLACES, (0, 2), (spot, (), None))
        self.check_refused(NoRoute, put, BESIDE, (0, 2), (None, (), None))

    def test_one_piece_twice(self):
        drawing = flat((4, ((0, 1),)))
        for steps in (((0, 1, 0), (0, 1, 0)), ((0, 1, 0), (1, 0, 0)), ((1, 0, 0), (0, 1, 0))):
            self.check_refused(NoRoute, put, drawing, (2, 3), (None, steps, None))
        for first, second in (((0, 1, 0), (1, 0, 2)), ((0, 1, 1), (1, 0, 1)), ((2, 3, 2), (3, 2, 0))):
            self.check_refused(NoRoute, put, TWICE, (0, 2), (1, (first, second), 3))

    def test_steps_in_another_order_or_from_another_side(self):
        many = 0
        for drawing in CROSSED:
            for tie in free_ties(drawing)[:4]:
                if len(drawing[1]) < 18:
                    start, steps, end = best(drawing, tie)[0]
                    for wrong in (steps[::-1], tuple(across(drawing, step) for step in steps), steps[1:], steps[:-1]):
                        made = put_by_words(drawing, tie, (start, wrong, end))
                        if not stands(made):
                            self.check_refused(NoRoute, put, drawing, tie, (start, wrong, end))
                            many += 1
                        else:
                            self.assertEqual(put(drawing, tie, (start, wrong, end)), made)
        self.assertGreater(many, 100)

    def test_changed_at_one_spot(self):
        rest = without(told_otherwise(ROUND_FOUR, random.Random(91)), (1, 3))
        good = [route for many in range(2) for route in routes_with(rest, (1, 3), many)
                if stands(put_by_words(rest, (1, 3), route))]
        for route in good:
            for wrong in changed(route, lambda spot: JUNK + (0, 1, 2, 3, 4)):
                try:
                    told = put(rest, (1, 3), wrong)
                except NoRoute:
                    continue
                self.assertIn(repr_of(wrong), [repr_of(each) for each in good])
                self.check_drawing(told, ROUND_FOUR[:2])


class Without(Checked):
    """Point 25."""

    def test_each_tie(self):
        for drawing in STANDING:
            for tie in drawing[1]:
                told = without(drawing, tie)
                self.assertEqual(told, without_by_words(drawing, tie))
                self.check_drawing(told, (drawing[0], tuple(each for each in drawing[1] if each != tie)))

    def test_bent_lines(self):
        for bent in some_bent(40):
            for tie in bent.ties:
                rest = Bent((bent.n, tuple(each for each in bent.ties if each != tie)), bent.lines)
                self.assertEqual(without(bent.drawing(), tie), plain(rest.drawing()))

    def test_put_in_and_taken_out_again(self):
        for drawing in STANDING:
            for tie in free_ties(drawing)[:6]:
                if len(drawing[1]) < 18:
                    self.assertEqual(without(put(drawing, tie, best(drawing, tie)[0]), tie), plain(drawing))

    def test_in_any_order_down_to_no_ties(self):
        chance = random.Random(92)
        for drawing in STANDING:
            now = drawing
            for tie in chance.sample(drawing[1], len(drawing[1])):
                now = without(now, tie)
                self.assertIs(stands(now), True)
            self.assertEqual(now, (drawing[0], (), ((),) * drawing[0], (), ()) if drawing[1] else drawing)

    def test_no_tie(self):
        for wrong in ((1, 0), (3, 2), (0, 2), (0, True), (False, 1), [0, 1], None, ((0, 1),), (0,), (0, 1, 2), "01", 0,
                      ("0", "1"), (2, 3, None)) + JUNK:
            if repr_of(wrong) != repr_of((0, 1)):
                self.check_refused(NoTie, without, TWICE, wrong)
                self.check_refused(NoTie, led, TWICE, wrong)
        self.check_refused(NoTie, without, ONE_PLACE, (0, 1))
        self.check_refused(NoTie, led, ONE_PLACE, (0, 1))


class Best(Checked):
    """Point 26."""

    def test_route_and_levels(self):
        longest = 0
        for drawing in STANDING:
            for tie in free_ties(drawing):
                if len(drawing[1]) < 18:
                    route, levels = best(drawing, tie)
                    self.assertEqual(levels, levels_by_words(drawing, tie))
                    self.assertEqual(len(route[1]), least_level(drawing, tie))
                    self.assertEqual(count(put(drawing, tie, route)), count(drawing) + len(route[1]))
                    longest = max(longest, len(route[1]))
        self.assertGreater(longest, 3)

    def test_no_other_route_has_fewer_steps(self):
        for drawing in SMALL_ONES:
            for tie in free_ties(drawing):
                for many in range(min(3, len(best(drawing, tie)[0][1]))):
                    for route in routes_with(drawing, tie, many):
                        self.check_refused(NoRoute, put, drawing, tie, route)

    def test_out_of_two_rings(self):
        # Place 6 in a ring of three, that in another ring of three, with place 7 beside it.
        ties = ((0, 1), (0, 2), (0, 3), (0, 7), (1, 2), (1, 4), (2, 5), (3, 4), (3, 5), (3, 6), (4, 5))
        rings = ((1, 3, 2, 7), (0, 2, 4), (0, 5, 1), (0, 4, 6, 5), (1, 5, 3), (2, 3, 4), (3,), (0,))
        drawing = (8, ties, rings, ((),) * 11, ())
        self.assertIs(stands(drawing), True)
        route, levels = best(drawing, (6, 7))
        self.assertEqual(len(route[1]), 2)
        self.assertEqual(sorted(levels), [0, 1, 1, 1, 2])
        for many in (0, 1):
            for route in routes_with(drawing, (6, 7), many):
                self.check_refused(NoRoute, put, drawing, (6, 7), route)

    def test_unlike_parts(self):
        for drawing, tie in ((TWO_TIES, (0, 2)), (TWO_TIES, (1, 3)), (BESIDE, (0, 2)), (TEN_PLACES, (0, 9))):
            route, levels = best(drawing, tie)
            self.assertIsNone(levels)
            self.assertEqual(route[1], ())
            self.assertIn(route[0], spots_of(drawing, tie[0]))
            self.assertIn(route[2], spots_of(drawing, tie[1]))
            self.check_drawing(put(drawing, tie, route), (drawing[0], tuple(sorted(drawing[1] + (tie,)))))
        self.assertEqual(best(TEN_PLACES, (2, 5)), ((None, (), None), None))
        self.assertEqual(best(BESIDE, (0, 2)), ((1, (), None), None))

    def test_parts_joined_by_crossings_alone(self):
        route, levels = best(TWICE, (0, 2))
        self.assertEqual(levels, levels_by_words(TWICE, (0, 2)))
        self.assertIsNotNone(levels)

    def test_faces_of_other_parts(self):
        drawing = flat((7, ((0, 1), (0, 2), (1, 2), (2, 3), (4, 5), (4, 6), (5, 6))))
        levels = best(drawing, (0, 3))[1]
        self.assertEqual([level is None for level in levels], [face[0][0] > 3 for face in faces(drawing)])
        self.assertEqual(sorted(level for level in levels if level is not None), [0, 0])

    def test_kinds_and_again(self):
        for drawing in STANDING:
            for tie in free_ties(drawing)[:3]:
                if len(drawing[1]) < 18:
                    told = best(drawing, tie)
                    self.assertEqual(best(drawing, tie), told)
                    self.assertIs(type(told), tuple)
                    self.assertEqual(repr_of(told), repr_of(eval(repr(told))))
                    self.assertTrue(is_of_wholes(told[0][1]))


class LevelsShow(Checked):
    """Point 27."""

    def test_levels_told(self):
        for drawing in STANDING:
            for tie in free_ties(drawing):
                if len(drawing[1]) < 18:
                    route, levels = best(drawing, tie)
                    many = len(route[1])
                    self.assertIs(levels_show(drawing, tie, many, levels), True)
                    self.assertIs(levels_show(drawing, tie, many + 1, levels), False)
                    for number in range(many):
                        self.assertIs(levels_show(drawing, tie, number, levels), True)

    def test_other_levels_word_by_word(self):
        chance = random.Random(93)
        told = {True: 0, False: 0}
        for drawing in STANDING + CROSSED:
            for tie in free_ties(drawing)[:4]:
                levels = levels_by_words(drawing, tie)
                if levels is not None:
                    for each in range(8):
                        other = list(levels)
                        for change in range(chance.randint(1, 3)):
                            at = chance.randrange(len(other))
                            other[at] = chance.choice((other[at], 0, 1, 2, -1, None, (other[at] or 1) - 1))
                        number = chance.randint(0, least_level(drawing, tie) + 1)
                        shown = levels_show(drawing, tie, number, tuple(other))
                        self.assertIs(shown, show_by_words(drawing, tie, number, tuple(other)))
                        told[shown] += 1
        self.assertGreater(min(told.values()), 200)

    def test_lesser_levels(self):
        # Levels cut off at a height still differ by at most 1, and show no more than this height.
        many = 0
        for drawing in CROSSED:
            for tie in free_ties(drawing)[:6]:
                levels = levels_by_words(drawing, tie)
                most = least_level(drawing, tie)
                if levels is not None and most > 1:
                    for height in range(most + 1):
                        cut = tuple(None if level is None else min(level, height) for level in levels)
                        self.assertIs(levels_show(drawing, tie, height, cut), True)
                        self.assertIs(levels_show(drawing, tie, height + 1, cut), False)
                        many += 1
        self.assertGreater(many, 30)

    def test_greater_levels(self):
        many = 0
        for drawing in CROSSED[::3]:
            for tie in free_ties(drawing)[:2]:
                levels = levels_by_words(drawing, tie)
                if levels is not None:
                    most = least_level(drawing, tie)
                    for at, level in enumerate(levels):
                        if level is not None:
                            greater = levels[:at] + (level + 1,) + levels[at + 1:]
                            self.assertIs(levels_show(drawing, tie, most, greater), False)
                            many += 1
        self.assertGreater(many, 100)

    def test_wrong_things(self):
        rest = without(ROUND_FOUR, (1, 3))
        for drawing, tie in ((rest, (1, 3)), (TWICE, (0, 2)), (flat((8, ((0, 1), (1, 2), (4, 5)))), (0, 2))):
            levels = best(drawing, tie)[1]
            self.assertIs(levels_show(drawing, tie, 0, levels), True)
            for number in (0, len(best(drawing, tie)[0][1])):
                for wrong in changed(levels, lambda spot: JUNK + (0, 1, 2)):
                    self.assertIs(levels_show(drawing, tie, number, wrong), show_by_words(drawing, tie, number, wrong))
                for wrong in (list(levels), levels + (0,), levels + (None,), levels[:-1], levels[1:], (), None,
                              tuple(bool(level) for level in levels), tuple(str(level) for level in levels)):
                    self.assertIs(levels_show(drawing, tie, number, wrong), False)

    def test_truths_in_the_place_of_numbers(self):
        levels = best(TWICE, (0, 2))[1]
        for at, level in enumerate(levels):
            if level in (0, 1):
                self.assertIs(levels_show(TWICE, (0, 2), 0, levels[:at] + (bool(level),) + levels[at + 1:]), False)
        self.assertIs(levels_show(TWICE, (0, 2), False, levels), False)
        self.assertIs(levels_show(BESIDE, (0, 2), False, None), False)

    def test_unlike_parts(self):
        for drawing, tie in ((TWO_TIES, (0, 2)), (BESIDE, (0, 2)), (TEN_PLACES, (0, 9))):
            self.assertIs(levels_show(drawing, tie, 0, None), True)
            self.assertIs(levels_show(drawing, tie, 1, None), False)
            self.assertIs(levels_show(drawing, tie, -1, None), False)
            for wrong in ((), (0,), (0, 0), (None,), (None, None), 0, False, "", []):
                self.assertIs(levels_show(drawing, tie, 0, wrong), False)
        self.assertIs(levels_show(TWICE, (0, 2), 0, None), False)

    def test_drawings_with_eighteen_ties(self):
        for bent in great_bent(1):
            drawing = bent.drawing()
            for tie in free_ties(drawing)[:4]:
                levels = levels_by_words(drawing, tie)
                self.assertIs(levels_show(drawing, tie, least_level(drawing, tie), levels), True)
                self.assertIs(levels_show(drawing, tie, least_level(drawing, tie) + 1, levels), False)


class Led(Checked):
    """Point 28, for one tie."""

    def test_each_tie(self):
        better = 0
        for drawing in STANDING:
            for tie in drawing[1]:
                told = led(drawing, tie)
                self.check_drawing(told, drawing[:2])
                rest = without_by_words(drawing, tie)
                self.assertEqual(without(told, tie), rest)
                self.assertEqual(crossings_on(told, tie), least_level(rest, tie))
                self.assertLessEqual(count(told), count(drawing))
                better += count(told) < count(drawing)
        self.assertGreater(better, 100)

    def test_drawings_with_eighteen_ties(self):
        for bent in great_bent(2):
            drawing = bent.drawing()
            for tie in drawing[1]:
                told = led(drawing, tie)
                self.check_drawing(told, drawing[:2])
                self.assertEqual(without(told, tie), without_by_words(drawing, tie))

    def test_needless_crossings(self):
        self.assertEqual(count(led(TWICE, (0, 1))), 0)
        self.assertEqual(count(led(COMMON_PLACE, (0, 1))), 0)
        self.assertEqual(led(ROUND_FOUR, (0, 1)), ROUND_FOUR)


class Settled(Checked):
    """Point 28, for drawings."""

    def check_settled(self, drawing):
        told = settled(drawing)
        self.check_drawing(told, drawing[:2])
        self.assertLessEqual(count(told), count(drawing))
        self.assertFalse(crosses_again(told))
        for tie in told[1]:
            self.assertEqual(crossings_on(told, tie), least_level(without_by_words(told, tie), tie))
        return told

    def test_any(self):
        for drawing in STANDING:
            told = self.check_settled(drawing)
            self.assertEqual(settled(drawing), told)
            self.assertEqual(count(settled(told)), count(told))

    def test_ten_places_and_eighteen_ties_in_a_short_time(self):
        for drawing in [bent.drawing() for bent in great_bent(6)] + some_wandered(3, 10, 18, 12, 94):
            start = time.monotonic()
            settled(drawing)
            self.assertLess(time.monotonic() - start, 2)
            self.check_settled(drawing)

    def test_no_ties_and_settled_ones(self):
        self.assertEqual(settled(ONE_PLACE), ONE_PLACE)
        self.assertEqual(settled(TEN_PLACES), TEN_PLACES)
        self.assertEqual(count(settled(flat(FOUR_TIED))), 0)
        self.assertEqual(count(settled(TWICE)), 0)
        self.assertEqual(count(settled(COMMON_PLACE)), 0)


class TheWhole(Checked):
    """Point 3."""

    def test_odd_sets_and_the_must(self):
        many = 0
        great = [bent.drawing() for bent in great_bent(4)]
        chance = random.Random(95)
        dense = [wandered(chance, 6, chance.randint(10, 15), 5) for each in range(12)]
        for drawing in STANDING + great + dense:
            web = drawing[:2]
            odd = odd_set(web, ())
            for told in (drawing, settled(drawing), *(led(drawing, tie) for tie in drawing[1][:3])):
                if odd is not None:
                    self.assertEqual(len([each for each in told[4] if each[:2] in odd]) % 2, 1)
                    many += 1
                if web[0] <= 6:
                    self.assertGreaterEqual(count(told), must(web)[0])
        self.assertGreater(many, 50)


if __name__ == "__main__":
    unittest.main()
