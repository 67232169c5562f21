"""The least: point 32, with points 2 and 3 where they are about it."""

import itertools
import random
import time
import unittest

from leastcross.drawings import count, is_drawing, plain
from leastcross.errors import CrossError, TooMany
from leastcross.faces import stands
from leastcross.flat import flat
from leastcross.least import least
from leastcross.must import must
from leastcross.odd import is_odd_set, odd_set
from leastcross.papers import paper, shown
from leastcross.routes import settled
from samples import (EIGHTEEN, FIVE_TIED, FOUR_TIED, PETERSEN, SIX_TIED, THREE_TO_THREE, all_ties, any_web,
                     is_of_wholes, named_anew, repr_of)
from standing import crosses_again


class Checked(unittest.TestCase):
    def check_least(self, web):
        start = time.monotonic()
        told = least(web)
        self.assertLess(time.monotonic() - start, 2)
        self.assertIs(is_drawing(told), True)
        self.assertEqual(told[:2], web)
        self.assertEqual(plain(told), told)
        self.assertIs(stands(told), True)
        self.assertEqual(count(told), must(web)[0])
        self.assertFalse(crosses_again(told))
        return told


class Least(Checked):
    def test_known_ones(self):
        chance = random.Random(101)
        for web, number in ((FIVE_TIED, 1), (THREE_TO_THREE, 1), (SIX_TIED, 3), (FOUR_TIED, 0), ((6, ()), 0), ((1, ()), 0)):
            for each in range(10):
                self.assertEqual(count(self.check_least(named_anew(web, chance))), number)

    def test_all_webs_of_one_to_five_places(self):
        for n in range(1, 6):
            for many in range(len(all_ties(n)) + 1):
                for ties in itertools.combinations(all_ties(n), many):
                    told = self.check_least((n, ties))
                    self.assertEqual(count(told), 1 if (n, ties) == FIVE_TIED else 0)

    def test_all_ties_of_six_places_less_some(self):
        numbers = set()
        for many in range(3):
            for gone in itertools.combinations(all_ties(6), many):
                told = self.check_least((6, tuple(tie for tie in all_ties(6) if tie not in gone)))
                numbers.add(count(told))
        self.assertEqual(numbers, {1, 2, 3})

    def test_any_webs_of_six_places(self):
        chance = random.Random(102)
        for each in range(500):
            web = (6, tuple(sorted(chance.sample(all_ties(6), chance.randint(0, 13)))))
            self.check_least(web)

    def test_trees(self):
        chance = random.Random(103)
        for each in range(40):
            n = chance.randint(1, 6)
            web = named_anew((n, tuple((chance.randrange(new), new) for new in range(1, n))), chance)
            self.assertEqual(count(self.check_least(web)), 0)

    def test_no_ties(self):
        for n in range(1, 7):
            self.assertEqual(least((n, ())), (n, (), ((),) * n, (), ()))

    def test_five_all_tied_and_a_place_tied_to_some(self):
        chance = random.Random(104)
        for many in range(6):
            for tied in itertools.combinations(range(5), many):
                web = (6, tuple(sorted(FIVE_TIED[1] + tuple((i, 5) for i in tied))))
                self.check_least(named_anew(web, chance))

    def test_too_many(self):
        for web in ((7, ()), (7, EIGHTEEN), (8, ((0, 1),)), (9, ()), (10, ()), PETERSEN):
            ahead = repr_of(web)
            with self.assertRaises(CrossError) as caught:
                least(web)
            self.assertIs(type(caught.exception), TooMany)
            self.assertIsInstance(caught.exception, ValueError)
            self.assertEqual(repr_of(web), ahead)


class TheWhole(Checked):
    """Points 2 and 3."""

    def test_kinds_and_again(self):
        for web in (FIVE_TIED, THREE_TO_THREE, SIX_TIED, FOUR_TIED, (6, ()), (1, ())):
            self.assertTrue(is_of_wholes(least(web)))
            self.assertEqual(least(web), least(web))

    def test_odd_sets(self):
        chance = random.Random(105)
        for each in range(60):
            web = (6, tuple(sorted(chance.sample(all_ties(6), chance.randint(9, 15)))))
            odd = odd_set(web, ())
            told = least(web)
            self.assertEqual(count(told) == 0, odd is None)
            self.assertEqual(flat(web) is None, odd is not None)
            if odd is not None:
                self.assertIs(is_odd_set(web, odd), True)
                self.assertEqual(len([crossing for crossing in told[4] if crossing[:2] in odd]) % 2, 1)
                self.assertIs(shown(web, paper(web), count(told)), True)

    def test_no_tie_alone_makes_it_better(self):
        chance = random.Random(106)
        for each in range(60):
            told = least(any_web(chance, 6, 15))
            self.assertEqual(count(settled(told)), count(told))


if __name__ == "__main__":
    unittest.main()
