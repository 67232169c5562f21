"""Flat drawings: point 19, with points 2 and 3 where they are about them."""

import itertools
import random
import time
import unittest

from leastcross.drawings import count, is_drawing, plain
from leastcross.faces import faces, stands
from leastcross.flat import flat
from leastcross.odd import is_odd_set, odd_set
from samples import (FIVE_TIED, FLAT_WEBS, FOUR_TIED, OTHER_WEBS, PETERSEN, SIX_TIED, THREE_TO_THREE, all_ties, any_web,
                     is_of_wholes, led_over, named_anew)


def ties_of(text):
    """Ties told by their two figures: "01 12"."""
    return tuple(sorted(tuple(sorted((int(word[0]), int(word[1])))) for word in text.split()))


def in_triangles(chance, n):
    """The ties of n places drawn flat: each new place is put into a face of three and tied to its places."""
    ties = [(0, 1), (0, 2), (1, 2)]
    triangles = [(0, 1, 2), (0, 1, 2)]
    for new in range(3, n):
        at = chance.randrange(len(triangles))
        a, b, c = triangles.pop(at)
        ties += [(a, new), (b, new), (c, new)]
        triangles += [(a, b, new), (a, c, new), (b, c, new)]
    return ties


def by_points(chance, n):
    """Ties of n places on a plane, put in by chance where a straight stretch crosses none that is there."""
    points = [(chance.random(), chance.random()) for place in range(n)]

    def left(a, b, c):
        return (b[0] - a[0]) * (c[1] - a[1]) > (b[1] - a[1]) * (c[0] - a[0])

    def meet(one, other):
        a, b, c, d = (points[place] for place in one + other)
        return not set(one) & set(other) and left(a, b, c) != left(a, b, d) and left(c, d, a) != left(c, d, b)

    ties = []
    for tie in chance.sample(all_ties(n), len(all_ties(n))):
        if not any(meet(tie, there) for there in ties):
            ties.append(tie)
    return ties


class Checked(unittest.TestCase):
    def check_flat(self, web):
        told = flat(web)
        self.assertIsNotNone(told, web)
        self.assertIs(is_drawing(told), True)
        self.assertEqual(told[:2], web)
        self.assertEqual(plain(told), told)
        self.assertEqual(count(told), 0)
        self.assertIs(stands(told), True)
        self.assertIsNone(odd_set(web, ()))
        return told

    def check_none(self, web):
        self.assertIsNone(flat(web), web)
        self.assertIs(is_odd_set(web, odd_set(web, ())), True)


class Flat(Checked):
    def test_no_ties(self):
        for n in range(1, 11):
            self.assertEqual(self.check_flat((n, ())), (n, (), ((),) * n, (), ()))

    def test_one_tie(self):
        self.assertEqual(flat((2, ((0, 1),))), (2, ((0, 1),), ((1,), (0,)), ((),), ()))
        self.assertEqual(flat((4, ((1, 3),))), (4, ((1, 3),), ((), (3,), (), (1,)), ((),), ()))

    def test_trees(self):
        chance = random.Random(61)
        for each in range(60):
            n = chance.randint(2, 10)
            ties = tuple((chance.randrange(new), new) for new in range(1, n))
            told = self.check_flat(named_anew((n, ties), chance))
            self.assertEqual(len(faces(told)), 1)

    def test_rings(self):
        chance = random.Random(62)
        for n in range(3, 11):
            for each in range(5):
                ring = (n, tuple((i, i + 1) for i in range(n - 1)) + ((0, n - 1),))
                self.assertEqual(len(faces(self.check_flat(named_anew(ring, chance)))), 2)

    def test_four_places_all_tied(self):
        self.assertEqual(len(faces(self.check_flat(FOUR_TIED))), 4)

    def test_several_parts(self):
        self.check_flat((10, ties_of("01 02 03 12 13 23 45 46 47 56 57 67 89")))
        self.check_flat((9, ties_of("03 06 36 14 17 47 25 28 58")))
        self.check_flat((10, ties_of("09 18 27 36 45")))

    def test_parts_that_hang_together_at_one_place_alone(self):
        # Three rings at one place; four places all tied twice; a chain of rings; rings joined by a single tie.
        self.check_flat((7, ties_of("01 02 12 03 04 34 05 06 56")))
        self.check_flat((7, ties_of("03 04 06 34 36 46 31 32 35 12 15 25")))
        self.check_flat((9, ties_of("01 02 12 23 24 34 45 46 56 67 68 78")))
        self.check_flat((8, ties_of("01 02 03 12 13 23 34 45 46 47 56 57 67")))
        self.check_flat((10, ties_of("01 02 03 12 13 23 04 05 06 45 46 56 07 08 09 78 79 89")))

    def test_such_parts_with_names_in_any_turn(self):
        chance = random.Random(63)
        for ties in ("01 02 12 03 04 34 05 06 56", "03 04 06 34 36 46 31 32 35 12 15 25",
                     "01 02 12 23 24 34 45 46 56 67 68 78", "01 02 03 12 13 23 04 05 06 45 46 56 07 08 09 78 79 89"):
            for each in range(10):
                self.check_flat(named_anew((10, ties_of(ties)), chance))

    def test_places_without_ties(self):
        self.check_flat((10, ties_of("13 15 35 17")))
        self.check_flat((10, ties_of("13 15 17 35 37 57")))

    def test_webs_with_faces_of_three_alone(self):
        chance = random.Random(64)
        for each in range(40):
            n = chance.randint(4, 8)
            told = self.check_flat(named_anew((n, tuple(sorted(in_triangles(chance, n)))), chance))
            self.assertEqual(len(faces(told)), 2 * n - 4)
            self.assertTrue(all(len(face) == 3 for face in faces(told)))

    def test_ten_places_and_eighteen_ties(self):
        chance = random.Random(65)
        for each in range(150):
            make = chance.choice((in_triangles, by_points))
            ties = chance.sample(make(chance, 10), 18)
            web = named_anew((10, tuple(sorted(ties))), chance)
            self.assertEqual(len(web[1]), 18)
            self.check_flat(web)

    def test_the_same_web_with_names_in_any_turn(self):
        chance = random.Random(66)
        for web in FLAT_WEBS:
            for each in range(15):
                self.check_flat(named_anew(web, chance))

    def test_somewhat_more_places_and_ties_than_a_web_has(self):
        # Two places, each tied to a ring of five, and these two rings tied across: twelve places, thirty ties.
        ties = []
        for at in range(5):
            ties += [(10, at), (11, at + 5), (at, (at + 1) % 5), (at + 5, (at + 1) % 5 + 5), (at, at + 5),
                     (at, (at + 1) % 5 + 5)]
        web = (12, tuple(sorted(tuple(sorted(tie)) for tie in ties)))
        told = flat(web)
        self.assertEqual(told[:2], web)
        self.assertIs(stands(told), True)
        self.assertEqual(len(faces(told)), 20)
        self.assertIsNone(flat((12, tuple(sorted(web[1] + ((10, 11),))))))


class NoneIsFlat(Checked):
    def test_five_all_tied_and_three_tied_to_three(self):
        chance = random.Random(67)
        for web in (FIVE_TIED, THREE_TO_THREE):
            self.check_none(web)
            for each in range(10):
                self.check_none(named_anew(web, chance))

    def test_where_one_tie_less_would_do(self):
        for web in (FIVE_TIED, THREE_TO_THREE):
            for tie in web[1]:
                self.check_flat((web[0], tuple(each for each in web[1] if each != tie)))

    def test_others(self):
        for web in OTHER_WEBS + (SIX_TIED, PETERSEN):
            self.check_none(web)

    def test_with_ties_led_over_new_places(self):
        chance = random.Random(68)
        for base, most in ((FIVE_TIED, 5), (THREE_TO_THREE, 4)):
            for each in range(30):
                some = chance.sample(base[1], chance.randint(1, most))
                self.check_none(named_anew(led_over(base, *some), chance))

    def test_with_one_tie_led_over_several_places(self):
        self.check_none(led_over(THREE_TO_THREE, (0, 3), (0, 6), (0, 7), (0, 8)))
        self.check_none(led_over(FIVE_TIED, (0, 3), (0, 5), (3, 5), (0, 6)))

    def test_with_further_ties_and_places(self):
        chance = random.Random(69)
        for each in range(60):
            base = chance.choice((FIVE_TIED, THREE_TO_THREE))
            web = led_over(base, *chance.sample(base[1], chance.randint(0, 3)))
            others = [tie for tie in all_ties(10) if tie not in web[1]]
            more = chance.sample(others, 18 - len(web[1]))
            self.check_none(named_anew((10, tuple(sorted(web[1] + tuple(more)))), chance))

    def test_beside_parts_that_can(self):
        self.check_none((10, tuple(sorted(FIVE_TIED[1] + ties_of("56 57 67 89")))))
        self.check_none((10, tuple(sorted(FIVE_TIED[1] + ties_of("05 06 56 57 67")))))
        shifted = tuple((i + 4, j + 4) for i, j in THREE_TO_THREE[1])
        self.check_none((10, tuple(sorted(ties_of("01 02 03 12 13 23") + shifted))))


class OneOfTheTwo(Checked):
    """Point 3: each web has a flat drawing or an odd set, never both."""

    def test_all_webs_of_five_places(self):
        for bits in itertools.product((0, 1), repeat=10):
            web = (5, tuple(tie for tie, bit in zip(all_ties(5), bits) if bit))
            (self.check_none if web == FIVE_TIED else self.check_flat)(web)

    def test_any_webs(self):
        chance = random.Random(70)
        told = {True: 0, False: 0}
        for each in range(500):
            many = chance.randint(12, 18)
            web = any_web(chance) if each % 2 else (10, tuple(sorted(chance.sample(all_ties(10), many))))
            none = flat(web) is None
            told[none] += 1
            (self.check_none if none else self.check_flat)(web)
        self.assertGreater(min(told.values()), 80)

    def test_each_in_a_short_time(self):
        chance = random.Random(71)
        for each in range(30):
            web = (10, tuple(sorted(chance.sample(all_ties(10), 18))))
            start = time.monotonic()
            flat(web)
            self.assertLess(time.monotonic() - start, 2)


class Told(unittest.TestCase):
    """Point 2."""

    def test_kinds_and_again(self):
        for web in FLAT_WEBS:
            self.assertTrue(is_of_wholes(flat(web)))
            self.assertEqual(flat(web), flat(web))
        for web in OTHER_WEBS:
            self.assertIsNone(flat(web))


if __name__ == "__main__":
    unittest.main()
