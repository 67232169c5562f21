"""Odd sets: points 16, 17 and 18, with points 2 and 3 where they are about them."""

import itertools
import random
import time
import unittest

from bent import bent_of
from leastcross.odd import is_odd_set, odd_set, turned
from leastcross.straight import straight
from leastcross.webs import pairs
from oddness import is_even_by_words, is_odd_set_by_words, some_turns, turned_by_words, turns_within
from samples import (EIGHTEEN, FIVE_TIED, FLAT_WEBS, FOUR_TIED, JUNK, OTHER_WEBS, PETERSEN, SIX_TIED, THREE_TO_THREE,
                     all_ties, any_points, any_web, changed, is_of_wholes, led_over, named_anew, repr_of)

class Turned(unittest.TestCase):
    """Point 16."""

    def test_no_turns(self):
        self.assertEqual(turned(FOUR_TIED, ()), (((0, 2), (1, 3)),))
        self.assertEqual(turned((4, ((0, 1), (2, 3))), ()), ())
        self.assertEqual(turned((1, ()), ()), ())

    def test_no_turns_is_the_round_drawing(self):
        around = ((50, 0), (30, 40), (0, 50), (-40, 30), (-50, 1), (-30, -41), (1, -51), (41, -29))
        chance = random.Random(41)
        for each in range(40):
            web = any_web(chance, 8)
            drawn = straight(web, around[:web[0]])
            self.assertEqual(turned(web, ()), tuple(sorted(crossing[:2] for crossing in drawn[4])))

    def test_one_turn(self):
        # (0, 2) led over the place 1 no longer crosses (1, 3), nor would it a tie that ends at 1 otherwise.
        self.assertEqual(turned(FOUR_TIED, (((0, 2), 1),)), ())
        self.assertEqual(turned(FOUR_TIED, (((0, 2), 3),)), ())
        self.assertEqual(turned(FOUR_TIED, (((0, 1), 3),)), (((0, 1), (2, 3)), ((0, 2), (1, 3))))
        self.assertEqual(turned(FIVE_TIED, (((0, 2), 1),)), (
            ((0, 3), (1, 4)), ((0, 3), (2, 4)), ((1, 3), (2, 4))))

    def test_a_turn_of_either_tie(self):
        web = (4, ((0, 1), (2, 3)))
        for turn in (((0, 1), 2), ((0, 1), 3), ((2, 3), 0), ((2, 3), 1)):
            self.assertEqual(turned(web, (turn,)), (((0, 1), (2, 3)),))

    def test_both_ends_of_a_tie_are_led_over(self):
        web = (4, ((0, 1), (2, 3)))
        self.assertEqual(turned(web, (((0, 1), 2), ((0, 1), 3))), ())
        self.assertEqual(turned(web, (((0, 1), 2), ((2, 3), 0))), ())
        self.assertEqual(turned(web, (((0, 1), 2), ((2, 3), 0), ((2, 3), 1))), (((0, 1), (2, 3)),))

    def test_the_same_turn_twice_and_thrice(self):
        chance = random.Random(42)
        for each in range(60):
            web = any_web(chance)
            turns = some_turns(web, chance)
            for turn in turns[:3]:
                self.assertEqual(turned(web, turns + (turn, turn)), turned(web, turns))
                self.assertEqual(turned(web, (turn,) + turns + (turn, turn)), turned(web, turns + (turn,)))
                self.assertEqual(turned(web, (turn,) * 3), turned(web, (turn,)))
                self.assertEqual(turned(web, (turn,) * 2), turned(web, ()))

    def test_turns_in_any_order(self):
        chance = random.Random(43)
        for each in range(60):
            web = any_web(chance)
            turns = list(some_turns(web, chance))
            told = turned(web, tuple(turns))
            chance.shuffle(turns)
            self.assertEqual(turned(web, tuple(turns)), told)

    def test_turns_that_change_no_pair(self):
        # The place 4 is without ties; all ties of the place 2 have a place in common with (0, 1).
        web = (5, ((0, 1), (0, 2), (1, 2), (1, 3)))
        self.assertEqual(turned(web, ()), (((0, 2), (1, 3)),))
        self.assertEqual(turned(web, (((0, 1), 4), ((0, 1), 2), ((1, 3), 4), ((0, 1), 3))), (((0, 2), (1, 3)),))

    def test_by_the_words(self):
        chance = random.Random(44)
        for each in range(300):
            web = any_web(chance)
            turns = some_turns(web, chance, 40)
            self.assertEqual(turned(web, turns), turned_by_words(web, turns))


class IsAnOddSet(unittest.TestCase):
    """Point 17: what is an odd set."""

    def test_five_places_all_tied(self):
        self.assertIs(is_odd_set(FIVE_TIED, pairs(FIVE_TIED)), True)

    def test_three_tied_to_three(self):
        self.assertIs(is_odd_set(THREE_TO_THREE, pairs(THREE_TO_THREE)), True)

    def test_with_further_ties_and_places(self):
        self.assertIs(is_odd_set(SIX_TIED, pairs(FIVE_TIED)), True)
        self.assertIs(is_odd_set(SIX_TIED, pairs(THREE_TO_THREE)), True)
        self.assertIs(is_odd_set((10, EIGHTEEN), pairs(FIVE_TIED)), True)

    def test_with_ties_led_over_a_new_place(self):
        # A pair of the web, one of its ties led over a new place, is two pairs of the new one.
        for base in (FIVE_TIED, THREE_TO_THREE):
            for tie in base[1]:
                web = led_over(base, tie)
                new = base[0]
                halves = {each: (each,) for each in base[1]}
                halves[tie] = ((tie[0], new), (tie[1], new))
                some = sorted(tuple(sorted((first, second))) for one, other in pairs(base)
                              for first in halves[one] for second in halves[other])
                self.assertIs(is_odd_set(web, tuple(some)), True)

    def test_any_turn_of_the_names(self):
        chance = random.Random(45)
        for base in (FIVE_TIED, THREE_TO_THREE):
            for each in range(20):
                web = named_anew(base, chance)
                self.assertIs(is_odd_set(web, pairs(web)), True)

    def test_two_put_together_are_even(self):
        first, second = set(pairs(FIVE_TIED)), set(pairs(THREE_TO_THREE))
        both = tuple(sorted(first ^ second))
        self.assertTrue(is_even_by_words(SIX_TIED, both))
        self.assertIs(is_odd_set(SIX_TIED, both), False)
        others = (6, tuple(tie for tie in all_ties(6) if 0 not in tie))
        three = tuple(sorted(set(both) ^ set(pairs(others))))
        self.assertIs(is_odd_set(SIX_TIED, three), True)

    def test_all_sets_of_the_pairs_of_five_places(self):
        every = pairs(FIVE_TIED)
        chance = random.Random(46)
        for many in range(len(every) + 1):
            sets = list(itertools.combinations(every, many))
            for some in chance.sample(sets, min(len(sets), 300)):
                self.assertIs(is_odd_set(FIVE_TIED, some), some == every)

    def test_by_the_words(self):
        chance = random.Random(47)
        told = {True: 0, False: 0}
        for each in range(500):
            web = any_web(chance)
            found = odd_set(web, ())
            some = set(found) if found else set()
            if chance.random() < 0.5 and pairs(web):
                some ^= set(chance.sample(pairs(web), min(len(pairs(web)), chance.randint(0, 3))))
            some = tuple(sorted(some))
            due = is_odd_set_by_words(web, some)
            told[due] += 1
            self.assertIs(is_odd_set(web, some), due)
        self.assertGreater(min(told.values()), 40)


class IsNoOddSet(unittest.TestCase):
    """Point 17: what is none, whatever is handed in."""

    def check_not(self, web, some):
        self.assertIs(is_odd_set(web, some), False)

    def test_no_pairs(self):
        for web in FLAT_WEBS + OTHER_WEBS:
            self.check_not(web, ())

    def test_one_pair_more_or_less(self):
        for web, some in ((FIVE_TIED, pairs(FIVE_TIED)), (SIX_TIED, pairs(FIVE_TIED)),
                          (THREE_TO_THREE, pairs(THREE_TO_THREE)), (SIX_TIED, pairs(THREE_TO_THREE))):
            self.assertIs(is_odd_set(web, some), True)
            for pair in pairs(web):
                self.check_not(web, tuple(sorted(set(some) ^ {pair})))

    def test_told_twice(self):
        some = pairs(FIVE_TIED)
        for pair in some:
            self.check_not(FIVE_TIED, tuple(sorted(some + (pair,))))
            self.check_not(FIVE_TIED, tuple(sorted(some + (pair, pair))))
        self.check_not(FIVE_TIED, tuple(sorted(some * 3)))
        self.check_not(FIVE_TIED, some * 3)

    def test_in_another_order(self):
        some = pairs(FIVE_TIED)
        self.check_not(FIVE_TIED, some[::-1])
        for at in range(len(some) - 1):
            self.check_not(FIVE_TIED, some[:at] + (some[at + 1], some[at]) + some[at + 2:])

    def test_pairs_of_another_web(self):
        self.check_not(THREE_TO_THREE, pairs(FIVE_TIED))
        self.check_not(FIVE_TIED, pairs(THREE_TO_THREE))
        self.check_not((5, all_ties(5)[1:]), pairs(FIVE_TIED))
        self.check_not((5, all_ties(5)[:-1]), pairs(FIVE_TIED))
        self.check_not((1, ()), pairs(FIVE_TIED))

    def test_ties_with_a_common_place(self):
        some = tuple(itertools.combinations(all_ties(5), 2))
        self.check_not(FIVE_TIED, some)
        self.check_not(FIVE_TIED, tuple(sorted(pairs(FIVE_TIED) + (((0, 1), (0, 2)),))))
        self.check_not(FIVE_TIED, tuple(sorted(pairs(FIVE_TIED) + (((0, 1), (0, 1)),))))

    def test_ties_turned_about(self):
        some = pairs(FIVE_TIED)
        for at, (one, other) in enumerate(some):
            for turned_about in ((other, one), (one[::-1], other), (one, other[::-1]), (one[::-1], other[::-1])):
                self.check_not(FIVE_TIED, some[:at] + (turned_about,) + some[at + 1:])
                self.check_not(FIVE_TIED, tuple(sorted(some[:at] + (turned_about,) + some[at + 1:])))

    def test_a_truth_in_the_place_of_a_number(self):
        some = pairs(FIVE_TIED)
        truths = {0: False, 1: True}
        many = 0
        for broken in changed(some, lambda spot: [truths[spot]] if spot in (0, 1) else []):
            many += 1
            self.assertEqual(broken, some)
            self.check_not(FIVE_TIED, broken)
        self.assertGreater(many, 10)

    def test_anything_else(self):
        for web in (FIVE_TIED, (1, ()), FOUR_TIED, (10, EIGHTEEN)):
            for thing in JUNK + (0, 1, 15, "odd", ("",), ((None, None),), ((0, 1),), (((0, 1),),), ("ab",),
                                 (((0, 1), (2, 3), (0, 4)),), (((0, 1), None),), ((None, (2, 3)),),
                                 ((0, 1), (2, 3)), (((0, 1, 2), (3, 4)),), (((0, 1), (2,)),), (((0,), (1,)),),
                                 ((0, 1, 2, 3),), (((0, 1), "23"),)):
                self.check_not(web, thing)

    def test_one_spot_changed_at_each_depth(self):
        for web in (FIVE_TIED, SIX_TIED):
            some = pairs(FIVE_TIED)
            for broken in changed(some, lambda spot: JUNK):
                if repr_of(broken) != repr_of(some):
                    self.check_not(web, broken)

    def test_other_lengths_and_depths(self):
        some = pairs(FIVE_TIED)
        for thing in ((some,), ((some,),), some + ((),), some + (None,), some[0], some[0][0], some + some, (some, ()),
                      tuple((pair,) for pair in some), tuple(one + other for one, other in some),
                      tuple(pair + ((0, 1),) for pair in some), tuple(pair[:1] for pair in some)):
            self.check_not(FIVE_TIED, thing)


class OddSetTold(unittest.TestCase):
    """Point 18."""

    def check(self, web, met):
        """An odd set without met pairs, or None with turns that show why."""
        told = odd_set(web, met)
        if told is None:
            turns = turns_within(web, met)
            self.assertIsNotNone(turns)
            self.assertLessEqual(set(turned(web, turns)), set(met))
        else:
            self.assertIs(is_odd_set(web, told), True)
            self.assertTrue(is_odd_set_by_words(web, told))
            self.assertEqual(set(told) & set(met), set())
        return told

    def test_webs_that_can_be_drawn_flat(self):
        for web in FLAT_WEBS:
            self.assertIsNone(self.check(web, ()))
            self.assertIsNone(self.check(web, pairs(web)))

    def test_webs_that_cannot(self):
        for web in OTHER_WEBS:
            self.assertIsNotNone(self.check(web, ()))
            self.assertIsNone(self.check(web, pairs(web)))

    def test_five_places_all_tied_have_one_alone(self):
        self.assertEqual(odd_set(FIVE_TIED, ()), pairs(FIVE_TIED))
        for pair in pairs(FIVE_TIED):
            self.assertIsNone(self.check(FIVE_TIED, (pair,)))

    def test_three_tied_to_three_have_one_alone(self):
        self.assertEqual(odd_set(THREE_TO_THREE, ()), pairs(THREE_TO_THREE))
        for pair in pairs(THREE_TO_THREE):
            self.assertIsNone(self.check(THREE_TO_THREE, (pair,)))

    def test_six_places_all_tied_have_one_without_any_two_pairs(self):
        chance = random.Random(51)
        for each in range(60):
            met = tuple(chance.sample(pairs(SIX_TIED), 2))
            self.assertIsNotNone(self.check(SIX_TIED, met))

    def test_ties_led_over_new_places(self):
        chance = random.Random(52)
        for base, many in ((FIVE_TIED, 5), (THREE_TO_THREE, 4)):
            for each in range(10):
                web = led_over(base, *chance.sample(base[1], many))
                self.assertIsNotNone(self.check(named_anew(web, chance), ()))

    def test_a_web_is_flat_where_a_tie_is_gone(self):
        for base in (FIVE_TIED, THREE_TO_THREE):
            for tie in base[1]:
                self.assertIsNone(self.check((base[0], tuple(each for each in base[1] if each != tie)), ()))

    def test_any_webs_and_met_pairs(self):
        chance = random.Random(53)
        told = {True: 0, False: 0}
        for each in range(250):
            web = any_web(chance) if chance.random() < 0.5 else (10, tuple(sorted(chance.sample(all_ties(10), 18))))
            every = pairs(web)
            met = tuple(chance.choice(every) for each in range(chance.randint(0, 6))) if every else ()
            told[self.check(web, met) is None] += 1
        self.assertGreater(min(told.values()), 40)

    def test_met_pairs_one_by_one_until_there_is_none(self):
        chance = random.Random(54)
        for web in OTHER_WEBS:
            for each in range(4):
                met = ()
                told = self.check(web, met)
                while told is not None:
                    met += (chance.choice(told),)
                    told = self.check(web, met)
                self.assertGreaterEqual(len(met), 1)

    def test_met_pairs_in_any_order_some_more_than_once(self):
        chance = random.Random(55)
        for each in range(60):
            web = (7, tuple(sorted(chance.sample(all_ties(7), 17))))
            met = chance.sample(pairs(web), 4)
            none = self.check(web, tuple(met)) is None
            again = met + met[:2] + [met[0]]
            chance.shuffle(again)
            self.assertIs(self.check(web, tuple(again)) is None, none)
            self.assertIs(self.check(web, tuple(met[::-1])) is None, none)

    def test_ten_places_and_eighteen_ties_in_a_short_time(self):
        chance = random.Random(56)
        start = time.monotonic()
        for each in range(40):
            web = (10, tuple(sorted(chance.sample(all_ties(10), 18))))
            odd_set(web, tuple(chance.sample(pairs(web), 5)))
        self.assertLess(time.monotonic() - start, 40)


class Promised(unittest.TestCase):
    """Points 2 and 3."""

    def test_turns_have_an_odd_number_of_the_pairs_of_an_odd_set(self):
        chance = random.Random(57)
        for each in range(100):
            web = chance.choice(OTHER_WEBS)
            met = tuple(chance.sample(pairs(web), chance.randint(0, 2)))
            found = odd_set(web, met)
            if found is not None:
                for again in range(10):
                    told = turned(web, some_turns(web, chance, 30))
                    self.assertEqual(len(set(told) & set(found)) % 2, 1)

    def test_straight_ties_have_an_odd_number_of_crossings_of_an_odd_set(self):
        chance = random.Random(58)
        for each in range(100):
            web = chance.choice(OTHER_WEBS)
            drawn = straight(web, any_points(chance, web[0], 10 ** 6))
            met = tuple(chance.sample(pairs(web), chance.randint(0, 2)))
            found = odd_set(web, met)
            if found is not None:
                self.assertEqual(sum(1 for crossing in drawn[4] if crossing[:2] in found) % 2, 1)

    def test_bent_ties_too(self):
        chance = random.Random(60)
        for each in range(30):
            web = chance.choice((FIVE_TIED, THREE_TO_THREE, led_over(FIVE_TIED, (0, 3)), PETERSEN))
            drawn = bent_of(chance, web, 1, 1000).drawing()
            found = odd_set(web, ())
            self.assertEqual(sum(1 for crossing in drawn[4] if crossing[:2] in found) % 2, 1)

    def test_kinds_and_again(self):
        chance = random.Random(59)
        for web in FLAT_WEBS + OTHER_WEBS:
            turns = some_turns(web, chance)
            self.assertTrue(is_of_wholes(turned(web, turns)))
            self.assertEqual(turned(web, turns), turned(web, turns))
            told = odd_set(web, ())
            self.assertTrue(told is None or is_of_wholes(told))
            self.assertEqual(odd_set(web, ()), told)
            self.assertIs(type(is_odd_set(web, told)), bool)
            self.assertIs(is_odd_set(web, told), is_odd_set(web, told))


if __name__ == "__main__":
    unittest.main()
