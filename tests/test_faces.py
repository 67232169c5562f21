"""Faces: points 10, 11, 12 and 13, with points 2 and 3 where they are about faces."""

import itertools
import random
import unittest

from bent import some_bent
from leastcross.drawings import mirrored, plain
from leastcross.faces import across, behind, faces, stands
from leastcross.straight import straight
from samples import (COMMON_PLACE, FALLEN_FOUR, ONE_PLACE, PETERSEN, PLAIN_DRAWINGS, ROUND_FOUR, TEN_PLACES,
                     TWICE, is_of_wholes, some_drawings, told_otherwise)
from turns import Turns, steps_by_words

# One goes up, from 0 to 1; other comes over it from the right (1) or from the left (0).
FROM_RIGHT = (4, ((0, 1), (2, 3)), ((1,), (0,), (3,), (2,)), ((0,), (0,)), (((0, 1), (2, 3), 1),))
FROM_LEFT = (4, ((0, 1), (2, 3)), ((1,), (0,), (3,), (2,)), ((0,), (0,)), (((0, 1), (2, 3), 0),))
# Two ties and a place without ties.
BESIDE = (5, ((0, 3), (1, 4)), ((3,), (4,), (), (0,), (1,)), ((), ()), ())
TRIANGLE = (3, ((0, 1), (0, 2), (1, 2)), ((1, 2), (0, 2), (0, 1)), ((), (), ()), ())


class Across(unittest.TestCase):
    """Point 10."""

    def test_tie_without_crossings(self):
        self.assertEqual(across(ROUND_FOUR, (0, 1, 0)), (1, 0, 0))
        self.assertEqual(across(ROUND_FOUR, (1, 0, 0)), (0, 1, 0))

    def test_tie_with_one_crossing(self):
        self.assertEqual(across(ROUND_FOUR, (0, 2, 0)), (2, 0, 1))
        self.assertEqual(across(ROUND_FOUR, (0, 2, 1)), (2, 0, 0))
        self.assertEqual(across(ROUND_FOUR, (3, 1, 1)), (1, 3, 0))

    def test_tie_with_two_crossings(self):
        self.assertEqual([across(TWICE, (0, 1, k)) for k in range(3)], [(1, 0, 2), (1, 0, 1), (1, 0, 0)])

    def test_the_other_step_of_the_piece(self):
        for drawing in some_drawings(100):
            steps = steps_by_words(drawing)
            turns = Turns(drawing)
            for step in steps:
                told = across(drawing, step)
                self.assertEqual(told, turns.turned_about(step))
                self.assertIn(told, steps)
                self.assertNotEqual(told, step)
                self.assertEqual(across(drawing, told), step)


class Behind(unittest.TestCase):
    """Point 11."""

    def test_side_one_the_four_ways_to_come(self):
        self.assertEqual(behind(FROM_RIGHT, (0, 1, 0)), (2, 3, 1))
        self.assertEqual(behind(FROM_RIGHT, (1, 0, 0)), (3, 2, 1))
        self.assertEqual(behind(FROM_RIGHT, (2, 3, 0)), (1, 0, 1))
        self.assertEqual(behind(FROM_RIGHT, (3, 2, 0)), (0, 1, 1))

    def test_side_nought_the_four_ways_to_come(self):
        self.assertEqual(behind(FROM_LEFT, (0, 1, 0)), (3, 2, 1))
        self.assertEqual(behind(FROM_LEFT, (1, 0, 0)), (2, 3, 1))
        self.assertEqual(behind(FROM_LEFT, (2, 3, 0)), (0, 1, 1))
        self.assertEqual(behind(FROM_LEFT, (3, 2, 0)), (1, 0, 1))

    def test_place_with_one_tie(self):
        self.assertEqual(behind(FROM_RIGHT, (0, 1, 1)), (1, 0, 0))
        self.assertEqual(behind(BESIDE, (3, 0, 0)), (0, 3, 0))

    def test_place_with_several_ties(self):
        # The ring of 2 is (0, 1, 3): ahead of 3 stands 1, ahead of 1 stands 0, ahead of 0 stands 3.
        self.assertEqual(behind(ROUND_FOUR, (3, 2, 0)), (2, 1, 0))
        self.assertEqual(behind(ROUND_FOUR, (1, 2, 0)), (2, 0, 0))
        self.assertEqual(behind(ROUND_FOUR, (0, 2, 1)), (2, 3, 0))

    def test_ring_begun_elsewhere(self):
        for ring in ((0, 1, 3), (1, 3, 0), (3, 0, 1)):
            drawing = ROUND_FOUR[:2] + (ROUND_FOUR[2][:2] + (ring,) + ROUND_FOUR[2][3:],) + ROUND_FOUR[3:]
            self.assertEqual(behind(drawing, (0, 2, 1)), (2, 3, 0))
            self.assertEqual(behind(drawing, (1, 2, 0)), (2, 0, 0))

    def test_ties_that_cross_twice(self):
        self.assertEqual(behind(TWICE, (0, 1, 0)), (2, 3, 1))
        self.assertEqual(behind(TWICE, (0, 1, 1)), (3, 2, 1))
        self.assertEqual(behind(TWICE, (0, 1, 2)), (1, 0, 0))
        self.assertEqual(behind(TWICE, (1, 0, 0)), (2, 3, 2))
        self.assertEqual(behind(TWICE, (1, 0, 1)), (3, 2, 2))
        self.assertEqual(behind(TWICE, (2, 3, 1)), (0, 1, 2))
        self.assertEqual(behind(TWICE, (3, 2, 1)), (0, 1, 1))

    def test_ties_that_cross_with_a_common_place(self):
        # Side 0: (0, 2) goes over (0, 1) from its left to its right.
        self.assertEqual(behind(COMMON_PLACE, (0, 1, 0)), (2, 0, 1))
        self.assertEqual(behind(COMMON_PLACE, (0, 2, 0)), (0, 1, 1))
        self.assertEqual(behind(COMMON_PLACE, (1, 0, 0)), (0, 2, 1))
        self.assertEqual(behind(COMMON_PLACE, (2, 0, 0)), (1, 0, 1))
        self.assertEqual(behind(COMMON_PLACE, (1, 0, 1)), (0, 2, 0))
        self.assertEqual(behind(COMMON_PLACE, (2, 0, 1)), (0, 1, 0))

    def test_every_step_of_bent_lines_by_their_angles(self):
        chance = random.Random(21)
        for bent in some_bent(150):
            drawing = bent.drawing()
            for told in (drawing, told_otherwise(drawing, chance)):
                for step in steps_by_words(drawing):
                    self.assertEqual(behind(told, step), bent.behind(step))

    def test_every_step_standing_or_not(self):
        chance = random.Random(22)
        for drawing in some_drawings(200):
            turns = Turns(drawing)
            other = told_otherwise(drawing, chance)
            for step in steps_by_words(drawing):
                self.assertEqual(behind(drawing, step), turns.behind(step))
                self.assertEqual(behind(other, step), turns.behind(step))

    def test_no_two_steps_have_the_same_one_behind(self):
        for drawing in some_drawings(200):
            steps = steps_by_words(drawing)
            self.assertEqual(sorted(behind(drawing, step) for step in steps), steps)


class Faces(unittest.TestCase):
    """Point 12."""

    def test_without_ties(self):
        self.assertEqual(faces(ONE_PLACE), ())
        self.assertEqual(faces(TEN_PLACES), ())

    def test_one_tie(self):
        self.assertEqual(faces((2, ((0, 1),), ((1,), (0,)), ((),), ())), (((0, 1, 0), (1, 0, 0)),))

    def test_three_places_all_tied(self):
        self.assertEqual(faces(TRIANGLE), (
            ((0, 1, 0), (1, 2, 0), (2, 0, 0)),
            ((0, 2, 0), (2, 1, 0), (1, 0, 0)),
        ))

    def test_four_places_on_a_circle(self):
        self.assertEqual(faces(ROUND_FOUR), (
            ((0, 1, 0), (1, 3, 0), (2, 0, 1)),
            ((0, 2, 0), (1, 3, 1), (3, 0, 0)),
            ((0, 2, 1), (2, 3, 0), (3, 1, 0)),
            ((0, 3, 0), (3, 2, 0), (2, 1, 0), (1, 0, 0)),
            ((1, 2, 0), (2, 0, 0), (3, 1, 1)),
        ))

    def test_a_face_with_both_steps_of_each_piece(self):
        self.assertEqual(faces(FROM_RIGHT), ((
            (0, 1, 0), (2, 3, 1), (3, 2, 0), (0, 1, 1), (1, 0, 0), (3, 2, 1), (2, 3, 0), (1, 0, 1)),))

    def test_several_parts(self):
        self.assertEqual(faces(BESIDE), (((0, 3, 0), (3, 0, 0)), ((1, 4, 0), (4, 1, 0))))

    def test_each_step_in_just_one_face_once(self):
        for drawing in some_drawings(200):
            told = [step for face in faces(drawing) for step in face]
            self.assertEqual(sorted(told), steps_by_words(drawing))

    def test_each_step_is_behind_the_one_ahead(self):
        for drawing in some_drawings(200):
            for face in faces(drawing):
                for ahead, step in zip(face, face[1:] + face[:1]):
                    self.assertEqual(behind(drawing, ahead), step)

    def test_least_step_first_and_faces_rising(self):
        for drawing in some_drawings(200):
            told = faces(drawing)
            self.assertEqual([face[0] for face in told], [min(face) for face in told])
            self.assertEqual(list(told), sorted(told))

    def test_rings_begun_elsewhere_and_crossings_numbered_otherwise(self):
        chance = random.Random(23)
        for drawing in some_drawings(200):
            self.assertEqual(faces(told_otherwise(drawing, chance)), faces(drawing))
            self.assertEqual(faces(plain(drawing)), faces(drawing))

    def test_the_mirrored_one_has_faces_of_as_many_steps(self):
        for drawing in some_drawings(200):
            mirror = mirrored(drawing)
            self.assertEqual(sorted(map(len, faces(mirror))), sorted(map(len, faces(drawing))))
            # Seen from behind, each piece is gone along the other way.
            turned = {frozenset(across(drawing, step) for step in face) for face in faces(drawing)}
            self.assertEqual({frozenset(face) for face in faces(mirror)}, turned)


class Stands(unittest.TestCase):
    """Point 13."""

    def test_places_without_ties(self):
        self.assertIs(stands(ONE_PLACE), True)
        self.assertIs(stands(TEN_PLACES), True)
        self.assertIs(stands(BESIDE), True)

    def test_samples(self):
        for drawing in PLAIN_DRAWINGS:
            self.assertIs(stands(drawing), drawing != FALLEN_FOUR, drawing)

    def test_four_places_all_tied_without_crossings(self):
        ties = ROUND_FOUR[1]
        flat_rings = ((1, 2, 3), (0, 3, 2), (0, 1, 3), (0, 2, 1))
        self.assertIs(stands((4, ties, flat_rings, ((),) * 6, ())), True)
        self.assertIs(stands((4, ties, ROUND_FOUR[2], ((),) * 6, ())), False)

    def test_two_ties_that_cross_once_by_either_side(self):
        self.assertIs(stands(FROM_RIGHT), True)
        self.assertIs(stands(FROM_LEFT), True)

    def test_ties_with_free_ends_that_cross_twice(self):
        # Other can always be led around an end of one.
        for sides in itertools.product((0, 1), repeat=2):
            for way in ((0, 1), (1, 0)):
                crossings = tuple(((0, 1), (2, 3), side) for side in sides)
                self.assertIs(stands(TWICE[:3] + (((0, 1), way), crossings)), True)

    def test_a_tie_that_goes_over_a_ring_twice(self):
        # It goes in and comes out again, or goes in twice, which cannot be.
        for sides in itertools.product((0, 1), repeat=2):
            for way in ((0, 1), (1, 0)):
                crossings = tuple(((0, 1), (3, 4), side) for side in sides)
                drawing = (5, TRIANGLE[1] + ((3, 4),), TRIANGLE[2] + ((4,), (3,)), ((0, 1), (), (), way), crossings)
                self.assertIs(stands(drawing), sides[0] != sides[1])

    def test_ties_that_cross_with_a_common_place(self):
        for side in (0, 1):
            self.assertIs(stands(COMMON_PLACE[:4] + ((((0, 1), (0, 2), side),),)), True)
        # Where all else is tied the two must leave 0 exchanged, (0, 2) to the right, and so go over to the left.
        ties = ((0, 1), (0, 2), (0, 3), (1, 2), (1, 3), (2, 3))
        rings = ((1, 2, 3), (0, 3, 2), (0, 1, 3), (0, 2, 1))
        ways = ((0,), (0,), (), (), (), ())
        for side in (0, 1):
            crossings = (((0, 1), (0, 2), side),)
            self.assertIs(stands((4, ties, rings, ways, crossings)), False)
            self.assertIs(stands((4, ties, ((2, 1, 3),) + rings[1:], ways, crossings)), side == 1)

    def test_parts_joined_by_a_crossing_alone(self):
        # Two triangles; where they are joined by one crossing alone the one would go into the other and not come out.
        ties = ((0, 1), (0, 2), (1, 2), (3, 4), (3, 5), (4, 5))
        rings = ((1, 2), (0, 2), (0, 1), (4, 5), (3, 5), (3, 4))
        apart = (6, ties, rings, ((),) * 6, ())
        self.assertIs(stands(apart), True)
        for side in (0, 1):
            once = (6, ties, rings, ((0,), (), (), (0,), (), ()), (((0, 1), (3, 4), side),))
            self.assertIs(stands(once), False)
        # A star and a tie with a place without ties beside them: one crossing joins what no tie joins.
        ties = ((0, 1), (0, 2), (0, 3), (4, 5))
        rings = ((1, 2, 3), (0,), (0,), (0,), (5,), (4,), ())
        for side in (0, 1):
            joined = (7, ties, rings, ((), (0,), (), (0,)), (((0, 2), (4, 5), side),))
            self.assertIs(stands(joined), True)

    def test_bent_lines_stand(self):
        chance = random.Random(24)
        for bent in some_bent(150) + some_bent(15, 10, 18):
            drawing = bent.drawing()
            self.assertIs(stands(drawing), True)
            self.assertIs(stands(told_otherwise(drawing, chance)), True)
            self.assertIs(stands(mirrored(drawing)), True)

    def test_ten_places_and_eighteen_ties_with_fourteen_crossings(self):
        drawing = ten_places_with_fourteen_crossings()
        self.assertEqual((drawing[0], len(drawing[1]), len(drawing[4])), (10, 18, 14))
        self.assertIs(stands(drawing), True)
        fallen = 0
        for number, (one, other, side) in enumerate(drawing[4]):
            turned = drawing[4][:number] + ((one, other, 1 - side),) + drawing[4][number + 1:]
            changed = drawing[:4] + (turned,)
            told = Turns(changed)
            self.assertIs(stands(changed), told.sum_of() == 2 * told.many_parts())
            fallen += not stands(changed)
        self.assertGreater(fallen, 10)

    def test_any_drawing_by_other_means(self):
        chance = random.Random(25)
        told = {True: 0, False: 0}
        for drawing in some_drawings(400) + [changed_drawing(bent, chance) for bent in some_bent(200)]:
            turns = Turns(drawing)
            by_words = turns.sum_of() == 2 * turns.many_parts()
            told[by_words] += 1
            self.assertLessEqual(turns.sum_of(), 2 * turns.many_parts())
            self.assertIs(stands(drawing), by_words)
            self.assertIs(stands(plain(drawing)), by_words)
            self.assertIs(stands(mirrored(drawing)), by_words)
            self.assertIs(stands(told_otherwise(drawing, chance)), by_words)
        self.assertGreater(min(told.values()), 50)

    def test_never_more_than_two_times_the_parts_by_the_faces_told(self):
        for drawing in some_drawings(300):
            n, ties, rings, ways, crossings = drawing
            pieces = sum(len(way) + 1 for way in ways)
            both = n + len(crossings) - pieces + len(faces(drawing)) + rings.count(())
            self.assertLessEqual(both, 2 * Turns(drawing).many_parts())
            self.assertEqual(both % 2, 0)


def ten_places_with_fourteen_crossings():
    """The Petersen web with three ties more, by straight ties between points that are looked for."""
    chance = random.Random(26)
    web = (10, tuple(sorted(PETERSEN[1] + ((0, 2), (1, 3), (5, 6)))))
    while True:
        points = tuple((chance.randint(-1000, 1000), chance.randint(-1000, 1000)) for each in range(10))
        drawing = straight(web, points)
        if len(drawing[4]) == 14:
            return drawing


def changed_drawing(bent, chance):
    """A bent drawing, sometimes with a ring turned about or a crossing's side changed."""
    n, ties, rings, ways, crossings = bent.drawing()
    if chance.random() < 0.5:
        at = chance.randrange(n)
        rings = rings[:at] + (rings[at][::-1],) + rings[at + 1:]
    if crossings and chance.random() < 0.5:
        at = chance.randrange(len(crossings))
        one, other, side = crossings[at]
        crossings = crossings[:at] + ((one, other, 1 - side),) + crossings[at + 1:]
    return (n, ties, rings, ways, crossings)


class Told(unittest.TestCase):
    """Point 2: of what kinds the things told are, and that they are told again."""

    def test_kinds(self):
        for drawing in some_drawings(60):
            self.assertTrue(is_of_wholes(faces(drawing)))
            self.assertIs(type(stands(drawing)), bool)
            for step in steps_by_words(drawing):
                self.assertTrue(is_of_wholes(across(drawing, step)))
                self.assertTrue(is_of_wholes(behind(drawing, step)))

    def test_who_asks_again_is_told_the_same(self):
        for drawing in some_drawings(60):
            self.assertEqual(faces(drawing), faces(drawing))
            self.assertEqual(stands(drawing), stands(drawing))


if __name__ == "__main__":
    unittest.main()
