"""Straight ties: points 14 and 15, with points 2 and 3 where they are about them."""

import itertools
import random
import unittest

from bent import Bent
from leastcross.drawings import count_of, is_drawing, mirrored, plain
from leastcross.errors import CrossError, NoPoints
from leastcross.faces import stands
from leastcross.straight import straight
from samples import FIVE_TIED, FOUR_TIED, ROUND_FOUR, all_ties, any_points, any_web, is_of_wholes

GREAT = 10 ** 60
SQUARE = ((0, 0), (1, 0), (1, 1), (0, 1))
# Three ties that go through the point (0, 0), each place opposite to another one.
THREE_ACROSS = (6, ((0, 3), (1, 4), (2, 5)))
HEXAGON = ((2, 0), (1, 2), (-1, 2), (-2, 0), (-1, -2), (1, -2))


def moved(points, change):
    return tuple(change(x, y) for x, y in points)


def any_that_fits(chance, far=30):
    """A web and points that fit it, as the bent lines without bends tell."""
    while True:
        web = any_web(chance)
        points = any_points(chance, web[0], far)
        bent = Bent(web, {(i, j): (points[i], points[j]) for i, j in web[1]})
        if bent.fits and not lone_place_on_a_tie(web, points):
            return web, points, bent


def lone_place_on_a_tie(web, points):
    for i, j in web[1]:
        for place, (x, y) in enumerate(points):
            (a, b), (c, d) = points[i], points[j]
            on_line = (c - a) * (y - b) == (d - b) * (x - a)
            # Between the two ends these lie in opposite directions.
            if place not in (i, j) and on_line and (x - a) * (x - c) + (y - b) * (y - d) <= 0:
                return True
    return False


class Refused(unittest.TestCase):
    """Point 14."""

    def refuses(self, web, points):
        # Not assertRaises: it must be this very class.
        try:
            straight(web, points)
        except CrossError as refusal:
            self.assertIs(type(refusal), NoPoints)
            self.assertIsInstance(refusal, ValueError)
        else:
            self.fail("not refused")

    def test_too_few_and_too_many_points(self):
        for web in (FOUR_TIED, (4, ()), (4, ((0, 1),))):
            for points in ((), SQUARE[:1], SQUARE[:3], SQUARE + ((5, 7),), SQUARE + ((5, 7), (7, 5)), SQUARE + SQUARE):
                self.refuses(web, points)
        self.refuses((1, ()), ())
        self.refuses((1, ()), ((0, 0), (0, 1)))

    def test_two_points_alike(self):
        for one, other in itertools.combinations(range(4), 2):
            points = list(SQUARE)
            points[other] = points[one]
            for ties in (all_ties(4), (), ((0, 1),), ((one, other),)):
                self.refuses((4, ties), tuple(points))

    def test_alike_with_great_numbers(self):
        self.refuses((2, ()), ((GREAT, -GREAT), (GREAT, -GREAT)))

    def test_a_point_on_a_tie_that_does_not_end_there(self):
        self.refuses((3, ((0, 1),)), ((0, 0), (2, 0), (1, 0)))
        self.refuses((3, ((0, 1),)), ((0, 0), (0, 2), (0, 1)))
        self.refuses((3, ((0, 1),)), ((-3, -3), (3, 6), (-1, 0)))
        self.refuses((3, ((1, 2),)), ((-1, 0), (3, 6), (-3, -3)))
        self.refuses((3, ((0, 2),)), ((-3 * GREAT, 3 * GREAT), (-GREAT, GREAT), (GREAT, -GREAT)))

    def test_a_place_with_ties_on_a_tie(self):
        points = ((0, 0), (4, 0), (1, 0), (1, 5), (9, 9))
        for ties in (((0, 1), (2, 3)), ((0, 1), (0, 2)), ((0, 1), (1, 2)), ((0, 1), (0, 3), (2, 4)),
                     ((0, 1), (0, 2), (1, 2))):
            self.refuses((5, ties), points)

    def test_ties_that_lie_upon_each_other(self):
        self.refuses((4, ((0, 2), (1, 3))), ((0, 0), (1, 1), (2, 2), (3, 3)))
        self.refuses((4, ((0, 3), (1, 2))), ((0, 0), (1, 1), (2, 2), (3, 3)))
        self.refuses((3, ((0, 1), (0, 2))), ((0, 0), (1, 1), (2, 2)))

    def test_a_place_where_two_ties_meet(self):
        self.refuses((5, ((0, 2), (1, 3))), ((0, 0), (2, 0), (2, 2), (0, 2), (1, 1)))

    def test_three_ties_through_one_point(self):
        self.refuses(THREE_ACROSS, HEXAGON)
        self.refuses((6, all_ties(6)), HEXAGON)
        for points in itertools.permutations(HEXAGON[:3]):
            self.refuses(THREE_ACROSS, points + tuple((-x, -y) for x, y in points))

    def test_three_ties_through_a_point_that_is_not_of_whole_numbers(self):
        # They meet at (1/3, 1/3), at other shares of each of them.
        points = ((0, 0), (1, 1), (0, 1), (1, -1), (1, 0), (-1, 1))
        self.refuses((6, ((0, 1), (2, 3), (4, 5))), points)

    def test_four_ties_through_one_point(self):
        points = ((3, 0), (0, 3), (2, 1), (-1, 2), (-3, 0), (0, -3), (-2, -1), (1, -2))
        self.refuses((8, ((0, 4), (1, 5), (2, 6), (3, 7))), points)
        self.refuses((8, ((0, 4), (1, 5), (3, 7))), points)

    def test_three_through_one_point_with_great_numbers(self):
        self.refuses(THREE_ACROSS, moved(HEXAGON, lambda x, y: (x * GREAT + 7, y * GREAT - GREAT)))

    def test_three_through_one_point_and_others_elsewhere(self):
        points = HEXAGON + ((-9, -1), (9, 1))
        # The ties (0, 3), (1, 4) and (6, 7) go through one point; (1, 5) goes beside it.
        self.refuses((8, ((0, 3), (1, 4), (1, 5), (6, 7))), points)
        self.assertEqual(len(straight((8, ((0, 3), (1, 5), (6, 7))), points)[4]), 3)

    def test_a_refusal_changes_nothing(self):
        for again in range(2):
            self.refuses(FOUR_TIED, SQUARE[:3])
            self.assertEqual(straight(FOUR_TIED, SQUARE), ROUND_FOUR)


class NotRefused(unittest.TestCase):
    """Point 14: what is just beside."""

    def test_a_point_just_beside_a_tie(self):
        for y in (1, -1):
            told = straight((3, ((0, 1),)), ((0, 0), (2 * GREAT, 0), (GREAT, y)))
            self.assertEqual(told, (3, ((0, 1),), ((1,), (0,), ()), ((),), ()))
            told = straight((3, ((0, 1),)), ((-GREAT, -GREAT), (GREAT, GREAT), (7, 7 + y)))
            self.assertEqual(told, (3, ((0, 1),), ((1,), (0,), ()), ((),), ()))

    def test_a_point_on_the_line_beyond_the_end(self):
        for point in ((3, 3), (-1, -1), (GREAT, GREAT)):
            told = straight((3, ((0, 1),)), ((0, 0), (2, 2), point))
            self.assertEqual(told[4], ())
        for point in ((0, 3), (0, -1)):
            self.assertEqual(straight((3, ((0, 1),)), ((0, 0), (0, 2), point))[4], ())
        for point in ((3, 0), (-1, 0)):
            self.assertEqual(straight((3, ((0, 1),)), ((0, 0), (2, 0), point))[4], ())

    def test_a_tie_that_ends_on_the_line_beyond_the_end(self):
        told = straight((4, ((0, 1), (2, 3))), ((0, 0), (2, 0), (3, 0), (5, 5)))
        self.assertEqual(told[4], ())
        told = straight((4, ((0, 1), (2, 3))), ((0, 0), (2, 0), (3, -4), (3, 4)))
        self.assertEqual(told[4], ())
        told = straight((4, ((0, 1), (2, 3))), ((0, 0), (2, 0), (3, 0), (7, 0)))
        self.assertEqual(told[4], ())

    def test_ties_that_go_on_straight_at_a_place(self):
        told = straight((3, ((0, 1), (1, 2))), ((0, 0), (1, 0), (2, 0)))
        self.assertEqual(told, (3, ((0, 1), (1, 2)), ((1,), (0, 2), (1,)), ((), ()), ()))

    def test_two_ties_alone_through_one_point(self):
        self.assertEqual(straight((6, ((0, 3), (1, 4))), HEXAGON)[4], (((0, 3), (1, 4), 1),))

    def test_three_ties_just_beside_one_point(self):
        points = moved(HEXAGON, lambda x, y: (x * GREAT, y * GREAT))
        for at in range(6):
            for aside in ((1, 0), (-1, 0), (0, 1), (0, -1)):
                x, y = points[at]
                beside = points[:at] + ((x + aside[0], y + aside[1]),) + points[at + 1:]
                if at not in (0, 3) or aside[1]:
                    self.assertEqual(len(straight(THREE_ACROSS, beside)[4]), 3)

    def test_three_ties_from_one_place(self):
        told = straight((4, ((0, 1), (0, 2), (0, 3))), ((0, 0), (1, 1), (-1, 1), (0, -1)))
        self.assertEqual(told, (4, ((0, 1), (0, 2), (0, 3)), ((1, 2, 3), (0,), (0,), (0,)), ((), (), ()), ()))

    def test_places_without_ties_may_lie_on_one_line(self):
        self.assertEqual(straight((3, ()), ((0, 0), (1, 1), (2, 2))), (3, (), ((), (), ()), (), ()))

    def test_one_place(self):
        self.assertEqual(straight((1, ()), ((-GREAT, GREAT),)), (1, (), ((),), (), ()))


class Drawn(unittest.TestCase):
    """Point 15."""

    def test_square(self):
        self.assertEqual(straight(FOUR_TIED, SQUARE), ROUND_FOUR)

    def test_rings_turn_to_the_left(self):
        around = ((3, 1), (1, 3), (0, 4), (-1, 3), (-4, 0), (-3, -1), (-1, -3), (0, -4), (1, -2))
        web = (10, tuple((0, j) for j in range(1, 10)))
        self.assertEqual(straight(web, ((0, 0),) + around)[2][0], tuple(range(1, 10)))
        self.assertEqual(straight(web, ((0, 0),) + around[::-1])[2][0], (1, 9, 8, 7, 6, 5, 4, 3, 2))

    def test_straight_right_and_straight_left(self):
        web = (5, ((0, 1), (0, 2), (0, 3), (0, 4)))
        to_left = {(1, 0): (0, 1), (0, 1): (-1, 0), (-1, 0): (0, -1), (0, -1): (1, 0)}
        for turns in itertools.permutations(to_left):
            for x, y in ((0, 0), (50, -20), (-50, 20), (50, 20), (20, 50), (-20, -50)):
                points = ((x, y),) + moved(turns, lambda right, up: (x + right, y + up))
                ring = straight(web, points)[2][0]
                for place, behind in zip(ring, ring[1:] + ring[:1]):
                    self.assertEqual(to_left[turns[place - 1]], turns[behind - 1])

    def test_side(self):
        web = (4, ((0, 1), (2, 3)))
        # (0, 1) goes up: (2, 3) goes over it to the left, then to the right.
        self.assertEqual(straight(web, ((0, -1), (0, 1), (1, 0), (-1, 0)))[4], (((0, 1), (2, 3), 1),))
        self.assertEqual(straight(web, ((0, -1), (0, 1), (-1, 0), (1, 0)))[4], (((0, 1), (2, 3), 0),))
        self.assertEqual(straight(web, ((0, 1), (0, -1), (1, 0), (-1, 0)))[4], (((0, 1), (2, 3), 0),))
        self.assertEqual(straight(web, ((0, 1), (0, -1), (-1, 0), (1, 0)))[4], (((0, 1), (2, 3), 1),))

    def test_order_along_a_tie(self):
        # (0, 1) goes to the right over four ties that stand at 5, 2, 7 and 3.
        web = (10, ((0, 1), (2, 3), (4, 5), (6, 7), (8, 9)))
        points = ((0, 0), (9, 0), (5, -1), (5, 1), (2, 1), (2, -8), (7, -2), (7, 1), (3, -1), (3, 3))
        told = straight(web, points)
        self.assertEqual(told[3], ((0, 1, 2, 3), (2,), (0,), (3,), (1,)))
        self.assertEqual(told[4], (((0, 1), (4, 5), 0), ((0, 1), (8, 9), 1), ((0, 1), (2, 3), 1), ((0, 1), (6, 7), 1)))
        back = straight(web, (points[1], points[0]) + points[2:])
        self.assertEqual([crossing[1] for crossing in back[4]], [(6, 7), (2, 3), (8, 9), (4, 5)])

    def test_order_of_spots_that_are_close(self):
        # Two ties over (0, 1), less than 1 apart where they go over it, great numbers at their ends.
        web = (6, ((0, 1), (2, 3), (4, 5)))
        points = ((0, 0), (GREAT, 0), (5, -GREAT), (6, GREAT), (5, -GREAT - 1), (7, GREAT))
        told = straight(web, points)
        self.assertEqual([told[4][number][1] for number in told[3][0]], [(2, 3), (4, 5)])

    def test_five_places_all_tied(self):
        points = ((0, 10), (-9, 3), (-6, -8), (6, -8), (9, 3))
        told = straight(FIVE_TIED, points)
        self.assertEqual(sorted(crossing[:2] for crossing in told[4]), [
            ((0, 2), (1, 3)), ((0, 2), (1, 4)), ((0, 3), (1, 4)), ((0, 3), (2, 4)), ((1, 3), (2, 4))])
        self.assertEqual([crossing[2] for crossing in told[4]], [1] * 5)
        self.assertIs(stands(told), True)

    def test_as_lines_without_bends_tell(self):
        chance = random.Random(31)
        crossings = 0
        for each in range(200):
            web, points, bent = any_that_fits(chance)
            told = straight(web, points)
            self.assertEqual(told, plain(bent.drawing()))
            crossings += len(told[4])
        self.assertGreater(crossings, 500)

    def test_refused_just_where_the_lines_do_not_fit(self):
        chance = random.Random(32)
        refused = {True: 0, False: 0}
        for each in range(600):
            web = any_web(chance, 7, 9)
            points = any_points(chance, web[0], 3)
            bent = Bent(web, {(i, j): (points[i], points[j]) for i, j in web[1]})
            due = not bent.fits or lone_place_on_a_tie(web, points)
            refused[due] += 1
            if due:
                with self.assertRaises(NoPoints):
                    straight(web, points)
            else:
                self.assertEqual(straight(web, points), plain(bent.drawing()))
        self.assertGreater(min(refused.values()), 50)

    def test_told_is_plain_and_stands(self):
        chance = random.Random(33)
        for each in range(100):
            web, points, bent = any_that_fits(chance)
            told = straight(web, points)
            self.assertIs(is_drawing(told), True)
            self.assertEqual(told[:2], web)
            self.assertEqual(plain(told), told)
            self.assertIs(stands(told), True)
            for one, other in itertools.combinations(web[1], 2):
                self.assertLessEqual(count_of(told, one, other), 0 if set(one) & set(other) else 1)

    def test_points_moved_made_greater_turned_and_slanted(self):
        changes = (
            lambda x, y: (x + 17, y - 1000), lambda x, y: (x - GREAT, y + GREAT), lambda x, y: (3 * x, 3 * y),
            lambda x, y: (x * GREAT, y * GREAT), lambda x, y: (-y, x), lambda x, y: (-x, -y), lambda x, y: (y, -x),
            lambda x, y: (x + y, y), lambda x, y: (x, y - 5 * x), lambda x, y: (x + GREAT * y, y),
            lambda x, y: (7 * x, y), lambda x, y: (2 * x - y + 3, x + y - 9),
        )
        chance = random.Random(34)
        for each in range(40):
            web, points, bent = any_that_fits(chance)
            told = straight(web, points)
            for change in changes:
                self.assertEqual(straight(web, moved(points, change)), told)

    def test_seen_from_behind(self):
        changes = (lambda x, y: (-x, y), lambda x, y: (x, -y), lambda x, y: (y, x), lambda x, y: (-GREAT * x, y + x))
        chance = random.Random(35)
        for each in range(40):
            web, points, bent = any_that_fits(chance)
            told = mirrored(straight(web, points))
            for change in changes:
                self.assertEqual(straight(web, moved(points, change)), told)

    def test_numbers_of_sixty_figures(self):
        chance = random.Random(36)
        for each in range(20):
            web = any_web(chance)
            points = any_points(chance, web[0], GREAT)
            told = straight(web, points)
            bent = Bent(web, {(i, j): (points[i], points[j]) for i, j in web[1]})
            self.assertEqual(told, plain(bent.drawing()))
            self.assertIs(stands(told), True)


class Told(unittest.TestCase):
    """Point 2: of what kinds the things told are, and that they are told again."""

    def test_kinds_and_again(self):
        chance = random.Random(37)
        for each in range(50):
            web, points, bent = any_that_fits(chance)
            self.assertTrue(is_of_wholes(straight(web, points)))
            self.assertEqual(straight(web, points), straight(web, points))


if __name__ == "__main__":
    unittest.main()
