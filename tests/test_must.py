"""The must: point 20, with points 2 and 3 where they are about it."""

import itertools
import random
import unittest

from leastcross.errors import CrossError, TooMany
from leastcross.flat import flat
from leastcross.must import must
from leastcross.odd import odd_set, turned
from leastcross.straight import straight
from leastcross.webs import by_turns, pairs
from oddness import all_turns, turned_by_words, turns_within
from samples import (EIGHTEEN, FIVE_TIED, FOUR_TIED, PETERSEN, SIX_TIED, THREE_TO_THREE, all_ties, any_points, any_web,
                     is_of_wholes, named_anew)


def least_of_all_turns(web):
    """The least number of pairs of any turns, all being tried that are not alike in what they change."""
    every = pairs(web)
    kept = []
    for tie, place in all_turns(web):
        row = sum(1 << at for at, (one, other) in enumerate(every)
                  if (tie == one and place in other) or (tie == other and place in one))
        for before in kept:
            row = min(row, row ^ before)
        if row:
            kept.append(row)
    made = [sum(1 << at for at, pair in enumerate(every) if by_turns(*pair))]
    for row in kept:
        made += [each ^ row for each in made]
    return min(each.bit_count() for each in made)


class Checked(unittest.TestCase):
    def check(self, web):
        """What is told is made as point 20 tells; that no turns have fewer pairs is held elsewhere."""
        told = must(web)
        self.assertIs(type(told), tuple)
        number, some, turns = told
        self.assertTrue(is_of_wholes(told))
        self.assertIn(number, range(4))
        self.assertEqual(len(some), number)
        self.assertEqual(list(some), sorted(set(some)))
        self.assertLessEqual(set(some), set(pairs(web)))
        self.assertLessEqual(set(turns), set(all_turns(web)))
        self.assertEqual(turned(web, turns), some)
        self.assertEqual(turned_by_words(web, turns), some)
        self.assertIsNone(odd_set(web, some))
        return number


class Must(Checked):
    def test_five_all_tied(self):
        self.assertEqual(self.check(FIVE_TIED), 1)

    def test_three_tied_to_three(self):
        self.assertEqual(self.check(THREE_TO_THREE), 1)

    def test_six_all_tied(self):
        self.assertEqual(self.check(SIX_TIED), 3)

    def test_six_places_with_fourteen_ties(self):
        for tie in all_ties(6):
            self.assertEqual(self.check((6, tuple(each for each in all_ties(6) if each != tie))), 2)

    def test_no_pairs_at_all(self):
        star = (6, tuple((0, j) for j in range(1, 6)))
        for web in ((1, ()), (2, ()), (2, ((0, 1),)), (3, all_ties(3)), (6, ()), star):
            self.assertEqual(self.check(web), 0)
            self.assertEqual(must(web)[:2], (0, ()))

    def test_four_places_all_tied(self):
        self.assertEqual(self.check(FOUR_TIED), 0)
        self.assertTrue(must(FOUR_TIED)[2])

    def test_all_webs_of_up_to_five_places(self):
        for n in range(1, 6):
            for bits in itertools.product((0, 1), repeat=len(all_ties(n))):
                web = (n, tuple(tie for tie, bit in zip(all_ties(n), bits) if bit))
                self.assertEqual(self.check(web), 1 if web == FIVE_TIED else 0)

    def test_any_webs_of_six_places(self):
        chance = random.Random(81)
        for many in range(16):
            for each in range(20):
                web = (6, tuple(sorted(chance.sample(all_ties(6), many))))
                self.check(web)

    def test_names_in_any_turn(self):
        chance = random.Random(82)
        for web, number in ((FIVE_TIED, 1), (THREE_TO_THREE, 1), ((6, all_ties(6)[1:]), 2), (SIX_TIED, 3),
                            ((6, all_ties(6)[2:]), 1), ((6, THREE_TO_THREE[1] + ((3, 4),)), 1)):
            for each in range(6):
                self.assertEqual(self.check(named_anew((web[0], tuple(sorted(web[1]))), chance)), number)


class NoneHaveFewer(Checked):
    """No turns have fewer pairs than the must: held against other means."""

    def test_all_turns_tried(self):
        chance = random.Random(83)
        webs = [FIVE_TIED, THREE_TO_THREE, FOUR_TIED] + [any_web(chance, 5) for each in range(20)]
        webs += [(6, tuple(sorted(chance.sample(all_ties(6), chance.randint(5, 9))))) for each in range(20)]
        for web in webs:
            self.assertEqual(self.check(web), least_of_all_turns(web))

    def test_all_sets_of_fewer_pairs_tried(self):
        chance = random.Random(84)
        webs = [(6, tuple(sorted(chance.sample(all_ties(6), chance.randint(9, 14))))) for each in range(20)]
        for web in webs + [(6, all_ties(6)[1:])]:
            number = self.check(web)
            for many in range(number):
                for some in itertools.combinations(pairs(web), many):
                    self.assertIsNone(turns_within(web, some))

    def test_six_all_tied_with_two_pairs(self):
        # All pairs of these are alike but for the names of the places: one of the two may be this one.
        one = pairs(SIX_TIED)[0]
        for other in pairs(SIX_TIED):
            self.assertIsNone(turns_within(SIX_TIED, (one, other)))

    def test_nought_just_where_there_is_a_flat_drawing(self):
        chance = random.Random(85)
        told = {True: 0, False: 0}
        for each in range(300):
            web = (6, tuple(sorted(chance.sample(all_ties(6), chance.randint(8, 13)))))
            none = flat(web) is None
            told[none] += 1
            self.assertIs(must(web)[0] > 0, none)
        self.assertGreater(min(told.values()), 80)

    def test_no_drawing_by_straight_ties_has_fewer_crossings(self):
        chance = random.Random(86)
        met = 0
        for each in range(600):
            n = chance.choice((5, 6))
            web = (n, all_ties(n)) if each % 2 else any_web(chance, n)
            number = must(web)[0]
            drawn = straight(web, any_points(chance, web[0], 10 ** 6))
            self.assertGreaterEqual(len(drawn[4]), number)
            met += number > 0 and len(drawn[4]) == number
        self.assertGreater(met, 3)


class Refused(unittest.TestCase):
    def test_seven_places_and_more(self):
        chance = random.Random(87)
        webs = [(n, ()) for n in range(7, 11)] + [(n, ((0, 1),)) for n in range(7, 11)]
        webs += [(7, EIGHTEEN), (10, EIGHTEEN), PETERSEN, (7, FIVE_TIED[1]), (7, SIX_TIED[1])]
        webs += [(n, tuple(sorted(chance.sample(all_ties(n), 15)))) for n in range(7, 11)]
        for web in webs:
            for again in range(2):
                try:
                    must(web)
                except CrossError as refusal:
                    self.assertIs(type(refusal), TooMany)
                    self.assertIsInstance(refusal, ValueError)
                else:
                    self.fail("not refused")

    def test_six_places_are_not_too_many(self):
        self.assertEqual(must((6, ())), (0, (), ()))
        self.assertEqual(must(SIX_TIED)[0], 3)


class Told(unittest.TestCase):
    """Point 2."""

    def test_again(self):
        for web in (FOUR_TIED, FIVE_TIED, THREE_TO_THREE, SIX_TIED, (6, all_ties(6)[1:])):
            self.assertEqual(must(web), must(web))


if __name__ == "__main__":
    unittest.main()
