"""Drawings: points 7, 8 and 9, with points 1 and 2 where they are about drawings."""

import random
import unittest

from leastcross.drawings import count, count_of, is_drawing, mirrored, plain
from leastcross.errors import CrossError, NoDrawing
from samples import (COMMON_PLACE, EIGHTEEN, FALLEN_FOUR, JUNK, ONE_PLACE, PLAIN_DRAWINGS, ROUND_FOUR, THREE_TIES,
                     TWICE, changed, is_of_wholes, some_drawings, told_otherwise)


def with_item(drawing, at, new):
    return drawing[:at] + (new,) + drawing[at + 1:]


def junk_for(spot):
    """What is put in the place of a spot: junk, an item more, an item less, and items out of order."""
    yield from JUNK
    if isinstance(spot, tuple):
        yield list(spot)
        if spot:
            yield spot[:-1]
            yield spot[1:]
            yield spot + spot[-1:]
        yield spot + (None,)
        yield spot + (0,)
    elif spot in (0, 1):
        yield bool(spot)
        yield str(spot)
        yield float(spot)


def is_drawing_by_words(thing):
    """Point 7 for tuples of the right shape and kinds, clause by clause."""
    n, ties, rings, ways, crossings = thing
    clauses = [1 <= n <= 10, len(ties) <= 18, len(rings) == n, len(ways) == len(ties)]
    clauses += [0 <= i < j < n for i, j in ties]
    clauses += [ties[at] < ties[at + 1] for at in range(len(ties) - 1)]
    for place, ring in enumerate(rings):
        tied = {j for i, j in ties if i == place} | {i for i, j in ties if j == place}
        clauses += [len(ring) == len(tied), set(ring) == tied]
    clauses += [one in ties and other in ties and one < other and side in (0, 1) for one, other, side in crossings]
    clauses += [0 <= number < len(crossings) for way in ways for number in way]
    for number, crossing in enumerate(crossings):
        clauses += [way.count(number) == (tie in crossing[:2]) for tie, way in zip(ties, ways)]
    return all(clauses)


class IsADrawing(unittest.TestCase):
    """Point 7: what is a drawing."""

    def test_drawings_that_stand_and_one_that_does_not(self):
        for drawing in PLAIN_DRAWINGS:
            self.assertIs(is_drawing(drawing), True)

    def test_rings_begun_anywhere_and_crossings_numbered_anyhow(self):
        chance = random.Random(1)
        for drawing in some_drawings(200):
            self.assertIs(is_drawing(drawing), True)
            self.assertIs(is_drawing(told_otherwise(drawing, chance)), True)

    def test_ties_that_cross_twice_in_either_order_of_the_other_tie(self):
        self.assertIs(is_drawing(with_item(TWICE, 3, ((0, 1), (1, 0)))), True)
        self.assertIs(is_drawing(with_item(TWICE, 3, ((1, 0), (0, 1)))), True)

    def test_both_crossings_alike(self):
        self.assertIs(is_drawing(with_item(TWICE, 4, (TWICE[4][0], TWICE[4][0]))), True)

    def test_ties_that_cross_with_a_common_place(self):
        self.assertIs(is_drawing(COMMON_PLACE), True)

    def test_either_side(self):
        for side in (0, 1):
            self.assertIs(is_drawing(with_item(COMMON_PLACE, 4, (((0, 1), (0, 2), side),))), True)

    def test_any_turn_of_a_ring(self):
        turned = with_item(ROUND_FOUR, 2, ((2, 1, 3), (3, 0, 2), (0, 1, 3), (1, 0, 2)))
        self.assertIs(is_drawing(turned), True)

    def test_eighteen_ties(self):
        self.assertIs(is_drawing(drawn_of(7, EIGHTEEN)), True)


def drawn_of(n, ties):
    """A drawing without crossings, rings rising."""
    rings = tuple(tuple(sorted(i + j - place for i, j in ties if place in (i, j))) for place in range(n))
    return n, ties, rings, ((),) * len(ties), ()


class IsNone(unittest.TestCase):
    """Point 7: what is no drawing, one clause broken at a time."""

    def check_not(self, thing):
        self.assertIs(is_drawing(thing), False)

    def test_anything_else(self):
        for thing in JUNK + (0, 1, 5, ((), (), (), (), ()), (1, 1, 1, 1, 1), (None,) * 5, "drawn", (True,) * 5):
            self.check_not(thing)

    def test_other_lengths(self):
        for drawing in PLAIN_DRAWINGS:
            self.check_not(drawing[:4])
            self.check_not(drawing[1:])
            self.check_not(drawing + ((),))
            self.check_not((drawing,))
            self.check_not(drawing[:2])

    def test_one_spot_changed_at_each_depth(self):
        for drawing in PLAIN_DRAWINGS:
            for broken in changed(drawing, junk_for):
                self.assertIs(is_drawing(broken), False, drawing)

    def test_number_of_places(self):
        for n in (0, 3, 5, 11, -1, 10 ** 5000, "4", None, (4,)):
            self.check_not(with_item(ROUND_FOUR, 0, n))
        self.check_not(with_item(ONE_PLACE, 0, True))
        self.check_not((0, (), (), (), ()))
        self.check_not((11, (), ((),) * 11, (), ()))

    def test_nineteen_ties(self):
        nineteen = tuple((i, j) for i in range(7) for j in range(i + 1, 7))[:19]
        self.check_not(drawn_of(7, nineteen))

    def test_ties_not_rising(self):
        self.check_not((3, ((0, 2), (0, 1)), ((1, 2), (0,), (0,)), ((), ()), ()))

    def test_tie_twice(self):
        self.check_not((2, ((0, 1), (0, 1)), ((1,), (0,)), ((), ()), ()))
        self.check_not((2, ((0, 1), (0, 1)), ((1, 1), (0, 0)), ((), ()), ()))

    def test_tie_told_the_other_way_round(self):
        self.check_not((2, ((1, 0),), ((1,), (0,)), ((),), ()))

    def test_tie_of_one_place(self):
        self.check_not((2, ((0, 0),), ((0,), ()), ((),), ()))

    def test_truths_as_places_of_a_tie(self):
        self.check_not((2, ((0, True),), ((1,), (0,)), ((),), ()))
        self.check_not((2, ((False, 1),), ((1,), (0,)), ((),), ()))

    def test_rings(self):
        edge = (3, ((0, 1), (0, 2)), ((1, 2), (0,), (0,)), ((), ()), ())
        self.assertIs(is_drawing(edge), True)
        for rings in (
            ((1, 2), (0,)), ((1, 2), (0,), (0,), ()), ((1,), (0,), (0,)), ((1, 1), (0,), (0,)),
            ((1, 2, 2), (0,), (0,)), ((1, 2, 0), (0,), (0,)), ((1, 2), (2,), (1,)), ((1, 2), (), (0,)),
            ((1, 2), (0, 2), (0, 1)), ((1, 2), 0, (0,)), ((1, 2), (False,), (0,)), ((True, 2), (0,), (0,)),
            ((1, 2), (0,), ("0",)), ((1, 2), (0,), None), ((1, "2"), (0,), (0,)), ((1, None), (0,), (0,)),
            ((1, 2), ((0,),), (0,)), None, (), 0, "", "120",
        ):
            self.check_not(with_item(edge, 2, rings))

    def test_crossings(self):
        for crossings in (
            (), (((0, 2), (1, 3), 2),), (((0, 2), (1, 3), -1),), (((0, 2), (1, 3), True),),
            (((0, 2), (1, 3), False),), (((0, 2), (1, 3), None),), (((0, 2), (1, 3), "1"),),
            (((1, 3), (0, 2), 1),), (((0, 2), (0, 2), 1),), (((1, 3), (1, 3), 1),), (((2, 0), (1, 3), 1),),
            (((0, 2), (3, 1), 1),), (((0, 2), (1, 4), 1),), (((0, 2), (True, 3), 1),), (((False, 2), (1, 3), 1),),
            (((0, 2), (1, 3)),), (((0, 2), (1, 3), 1, 1),), (((0, 2), None, 1),), ((None, (1, 3), 1),),
            ((0, 2, 1),), ((1, 4, 1),), (None,), ((),), (((0, 1), (2, 3), 1),), (((0, 2), (2, 3), 1),),
            (((0, 2), (1, 3), 1), ((0, 2), (1, 3), 1)), ((0, 2), (1, 3), 1), None, 0, 1, "", ("",),
        ):
            self.check_not(with_item(ROUND_FOUR, 4, crossings))

    def test_ways(self):
        for ways in (
            ((), (0,), (), (), (), ()), ((), (), (), (), (0,), ()), ((), (0, 0), (), (), (0,), ()),
            ((0,), (0,), (), (), (0,), ()), ((0,), (0,), (), (), (), ()), ((), (1,), (), (), (1,), ()),
            ((), (-1,), (), (), (-1,), ()), ((), (False,), (), (), (0,), ()), ((), ("0",), (), (), (0,), ()),
            ((), (None,), (), (), (0,), ()), ((), 0, (), (), (0,), ()), ((), None, (), (), (0,), ()),
            ((), (0,), (), (), (0,)), ((), (0,), (), (), (0,), (), ()), ((), (0, 1), (), (), (0,), ()),
            ((), (0, "a"), (), (), (0,), ()), ((), ((0,),), (), (), (0,), ()), None, (), 0, "",
        ):
            self.check_not(with_item(ROUND_FOUR, 3, ways))

    def test_a_number_twice_in_one_way(self):
        self.check_not(with_item(TWICE, 3, ((0, 1), (0, 0))))
        self.check_not(with_item(TWICE, 3, ((0, 1), (0, 1, 1))))

    def test_a_way_with_the_number_of_another_crossing(self):
        self.check_not(with_item(THREE_TIES, 3, ((0, 1), (0, 1), (1, 2))))
        self.check_not(with_item(THREE_TIES, 3, ((0, 2), (0, 1), (1, 2))))

    def test_as_the_clauses_tell(self):
        chance = random.Random(3)
        told = {True: 0, False: 0}
        for drawing in some_drawings(150):
            spots = list(changed(drawing, near_ones))
            for near in chance.sample(spots, min(20, len(spots))):
                by_words = is_drawing_by_words(near)
                told[by_words] += 1
                self.assertIs(is_drawing(near), by_words)
        self.assertGreater(min(told.values()), 50)


def near_ones(spot):
    """Changes that leave the shape: neighbouring numbers, items turned about, left out, or told twice."""
    if not isinstance(spot, tuple):
        yield spot + 1
        yield spot - 1
    elif spot and isinstance(spot[0], int) and len(spot) != 2:
        if len(spot) != 5:
            yield spot[::-1]
            yield spot[1:]
            yield spot + spot[:1]


class Plain(unittest.TestCase):
    """Point 8."""

    def test_a_plain_drawing_is_its_own(self):
        for drawing in PLAIN_DRAWINGS:
            self.assertEqual(plain(drawing), drawing)

    def test_rings_begun_elsewhere(self):
        begun = with_item(ROUND_FOUR, 2, ((3, 1, 2), (2, 3, 0), (3, 0, 1), (0, 1, 2)))
        self.assertEqual(plain(begun), ROUND_FOUR)

    def test_a_ring_is_not_turned_about(self):
        turned = with_item(ROUND_FOUR, 2, ((3, 2, 1), (0, 2, 3), (0, 1, 3), (0, 1, 2)))
        self.assertEqual(plain(turned)[2], ((1, 3, 2), (0, 2, 3), (0, 1, 3), (0, 1, 2)))

    def test_crossings_numbered_otherwise(self):
        n, ties, rings, ways, crossings = THREE_TIES
        told = (n, ties, rings, ((2, 0), (2, 1), (0, 1)), (crossings[1], crossings[2], crossings[0]))
        self.assertEqual(plain(told), THREE_TIES)

    def test_numbered_along_the_ties_in_their_order(self):
        told = (8, ((0, 1), (2, 3), (4, 5), (6, 7)), ((1,), (0,), (3,), (2,), (5,), (4,), (7,), (6,)),
                ((3,), (1, 0), (3, 1, 2), (2, 0)),
                (((2, 3), (6, 7), 1), ((2, 3), (4, 5), 0), ((4, 5), (6, 7), 1), ((0, 1), (4, 5), 0)))
        self.assertEqual(plain(told), told[:3] + (
            ((0,), (1, 2), (0, 1, 3), (3, 2)),
            (((0, 1), (4, 5), 0), ((2, 3), (4, 5), 0), ((2, 3), (6, 7), 1), ((4, 5), (6, 7), 1))))

    def test_any_drawing(self):
        chance = random.Random(8)
        for drawing in some_drawings(200):
            made = plain(drawing)
            self.assertIs(is_drawing(made), True)
            self.assertEqual(plain(made), made)
            self.assertEqual(made[:2], drawing[:2])
            for ring in made[2]:
                self.assertEqual(ring[:1], tuple(sorted(ring))[:1])
            met = []
            for way in made[3]:
                met += [number for number in way if number not in met]
            self.assertEqual(met, list(range(len(made[4]))))
            self.assertEqual([[made[4][number] for number in way] for way in made[3]],
                             [[drawing[4][number] for number in way] for way in drawing[3]])
            self.assertEqual(plain(told_otherwise(drawing, chance)), made)

    def test_refused(self):
        broken = [one for drawing in (ONE_PLACE, TWICE, COMMON_PLACE) for one in changed(drawing, junk_for)]
        for thing in JUNK + (0, 1, ROUND_FOUR[:4], ROUND_FOUR + ((),), (True,) + ONE_PLACE[1:]) + tuple(broken):
            try:
                plain(thing)
            except CrossError as refusal:
                self.assertIs(type(refusal), NoDrawing)
                self.assertIsInstance(refusal, ValueError)
            else:
                self.fail("not refused")


class Counted(unittest.TestCase):
    """Point 9: how many crossings."""

    def test_count(self):
        self.assertEqual([count(drawing) for drawing in PLAIN_DRAWINGS], [0, 0, 1, 1, 2, 1, 3])

    def test_count_of_in_either_order(self):
        self.assertEqual(count_of(ROUND_FOUR, (0, 2), (1, 3)), 1)
        self.assertEqual(count_of(ROUND_FOUR, (1, 3), (0, 2)), 1)
        self.assertEqual(count_of(TWICE, (0, 1), (2, 3)), 2)
        self.assertEqual(count_of(TWICE, (2, 3), (0, 1)), 2)
        self.assertEqual(count_of(COMMON_PLACE, (0, 2), (0, 1)), 1)

    def test_count_of_ties_that_do_not_cross(self):
        self.assertEqual(count_of(ROUND_FOUR, (0, 1), (2, 3)), 0)
        self.assertEqual(count_of(ROUND_FOUR, (0, 2), (2, 3)), 0)
        self.assertEqual(count_of(ROUND_FOUR, (2, 3), (1, 3)), 0)

    def test_the_counts_of_all_two_ties_come_to_the_count(self):
        for drawing in some_drawings(100):
            ties, crossings = drawing[1], drawing[4]
            both = 0
            for one in ties:
                for other in ties:
                    if one != other:
                        told = count_of(drawing, one, other)
                        self.assertEqual(told, sum(1 for crossing in crossings if {*crossing[:2]} == {one, other}))
                        both += told
            self.assertEqual(both, 2 * count(drawing))

    def test_told_are_whole_numbers_themselves(self):
        self.assertIs(type(count(ROUND_FOUR)), int)
        self.assertIs(type(count_of(ROUND_FOUR, (0, 2), (1, 3))), int)


class Mirrored(unittest.TestCase):
    """Point 9: the mirrored drawing."""

    def test_rings_and_sides(self):
        self.assertEqual(mirrored(ROUND_FOUR), (
            4, ROUND_FOUR[1], ((1, 3, 2), (0, 3, 2), (0, 3, 1), (0, 2, 1)), ROUND_FOUR[3], FALLEN_FOUR[4]))

    def test_nothing_to_turn(self):
        self.assertEqual(mirrored(ONE_PLACE), ONE_PLACE)

    def test_the_order_along_the_ties_stays(self):
        told = mirrored(TWICE)
        self.assertEqual(told, with_item(TWICE, 4, (((0, 1), (2, 3), 0), ((0, 1), (2, 3), 1))))

    def test_twice_mirrored_is_the_plain_drawing(self):
        for drawing in some_drawings(200):
            self.assertEqual(mirrored(mirrored(drawing)), plain(drawing))

    def test_told_is_plain_and_the_same_however_the_drawing_is_told(self):
        chance = random.Random(9)
        for drawing in some_drawings(200):
            told = mirrored(drawing)
            self.assertEqual(plain(told), told)
            self.assertEqual(mirrored(told_otherwise(drawing, chance)), told)
            self.assertEqual([one + other for one, other, side in told[4]],
                             [one + other for one, other, side in plain(drawing)[4]])
            self.assertEqual([1 - side for one, other, side in told[4]],
                             [side for one, other, side in plain(drawing)[4]])


class Told(unittest.TestCase):
    """Point 2: of what kinds the things told are, and that they are told again."""

    def test_drawings_are_of_tuples_and_whole_numbers_themselves(self):
        for drawing in some_drawings(50):
            self.assertTrue(is_of_wholes(plain(drawing)))
            self.assertTrue(is_of_wholes(mirrored(drawing)))

    def test_who_asks_again_is_told_the_same(self):
        for drawing in some_drawings(50):
            self.assertEqual(plain(drawing), plain(drawing))
            self.assertEqual(mirrored(drawing), mirrored(drawing))
            self.assertEqual(is_drawing(drawing), is_drawing(drawing))

    def test_a_refusal_changes_nothing(self):
        for again in range(2):
            with self.assertRaises(NoDrawing):
                plain(None)
            self.assertEqual(plain(TWICE), TWICE)


if __name__ == "__main__":
    unittest.main()
