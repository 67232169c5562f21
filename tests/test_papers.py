"""Papers and the looker: points 21 and 22, with points 2 and 3 where they are about them."""

import random
import time
import unittest

from leastcross.errors import CrossError, TooMany
from leastcross.must import must
from leastcross.odd import odd_set
from leastcross.papers import paper, shown
from leastcross.webs import pairs
from oddness import is_odd_set_by_words
from samples import (EIGHTEEN, FIVE_TIED, FLAT_WEBS, FOUR_TIED, JUNK, PETERSEN, SIX_TIED, THREE_TO_THREE, all_ties,
                     changed, is_of_wholes, led_over, named_anew)

FOURTEEN = (6, all_ties(6)[1:])
FOUR_TO_FOUR = (8, tuple((i, j) for i in range(4) for j in range(4, 8)))
ONE = pairs(FIVE_TIED)


def is_paper_by_words(web, thing, number, met=()):
    """Point 21 for things of the right shape, word by word."""
    some, papers = thing
    if not is_odd_set_by_words(web, some) or set(some) & set(met) or not set(some) <= set(pairs(web)):
        return False
    if number == 1:
        return papers == ()
    return len(papers) == len(some) and all(
        is_paper_by_words(web, papers[at], number - 1, met + (some[at],)) for at in range(len(some)))


def paper_of(web, number, met=()):
    """A paper for a number, by the odd sets told; None where there is none."""
    some = odd_set(web, met)
    if some is None:
        return None
    if number == 1:
        return (some, ())
    papers = tuple(paper_of(web, number - 1, met + (pair,)) for pair in some)
    return None if None in papers else (some, papers)


def with_paper(thing, at, new):
    return (thing[0], thing[1][:at] + (new,) + thing[1][at + 1:])


class Paper(unittest.TestCase):
    """Point 21."""

    def check(self, web):
        number = must(web)[0]
        told = paper(web)
        if number == 0:
            self.assertIsNone(told)
        else:
            self.assertTrue(is_of_wholes(told))
            self.assertTrue(is_paper_by_words(web, told, number))
            for other in (1, 2, 3):
                self.assertIs(shown(web, told, other), other == number)
        return number

    def test_for_one(self):
        self.assertEqual(paper(FIVE_TIED), (pairs(FIVE_TIED), ()))
        self.assertEqual(paper(THREE_TO_THREE), (pairs(THREE_TO_THREE), ()))

    def test_for_one_two_and_three(self):
        for web, number in ((FIVE_TIED, 1), (THREE_TO_THREE, 1), (FOURTEEN, 2), (SIX_TIED, 3)):
            self.assertEqual(self.check(web), number)

    def test_none_for_nought(self):
        for web in FLAT_WEBS:
            if web[0] <= 6:
                self.assertEqual(self.check(web), 0)
        self.assertIsNone(paper((6, ())))
        self.assertIsNone(paper(FOUR_TIED))

    def test_any_webs(self):
        chance = random.Random(91)
        for each in range(150):
            ties = all_ties(chance.randint(4, 6))
            some = chance.sample(ties, chance.randint(len(ties) // 2, len(ties)))
            self.check((6, tuple(sorted(some))))

    def test_names_in_any_turn(self):
        chance = random.Random(92)
        for web in (FIVE_TIED, THREE_TO_THREE, FOURTEEN, SIX_TIED):
            for each in range(4):
                self.check(named_anew(web, chance))

    def test_too_many(self):
        for web in ((7, ()), (7, EIGHTEEN), (7, FIVE_TIED[1]), (8, ()), (9, ((0, 8),)), (10, ()), PETERSEN):
            for again in range(2):
                try:
                    paper(web)
                except CrossError as refusal:
                    self.assertIs(type(refusal), TooMany)
                    self.assertIsInstance(refusal, ValueError)
                else:
                    self.fail("not refused")

    def test_who_asks_again_is_told_the_same(self):
        for web in (FOUR_TIED, FIVE_TIED, THREE_TO_THREE, FOURTEEN, SIX_TIED):
            self.assertEqual(paper(web), paper(web))


class Shown(unittest.TestCase):
    """Point 22: papers that are such."""

    def check(self, web, number):
        told = paper_of(web, number)
        self.assertIsNotNone(told)
        self.assertIs(shown(web, told, number), True)
        return told

    def test_for_one(self):
        for web in (FIVE_TIED, THREE_TO_THREE, FOURTEEN, SIX_TIED):
            self.check(web, 1)

    def test_for_less_than_the_must(self):
        self.check(FOURTEEN, 1)
        self.check(FOURTEEN, 2)
        self.check(SIX_TIED, 1)
        self.check(SIX_TIED, 2)
        self.check(SIX_TIED, 3)

    def test_with_more_than_six_places(self):
        self.check(PETERSEN, 1)
        self.check(PETERSEN, 2)
        self.check((7, EIGHTEEN), 3)
        self.check((10, EIGHTEEN), 3)
        self.check(FOUR_TO_FOUR, 3)
        self.check((10, SIX_TIED[1]), 3)
        self.check(led_over(SIX_TIED, (0, 1), (2, 5)), 3)
        self.check(led_over(FIVE_TIED, (0, 1), (0, 2), (1, 2)), 1)
        self.check(led_over(THREE_TO_THREE, (0, 3), (1, 4), (2, 5)), 1)

    def test_in_a_short_time(self):
        told = paper_of(FOUR_TO_FOUR, 3)
        start = time.monotonic()
        self.assertIs(shown(FOUR_TO_FOUR, told, 3), True)
        self.assertLess(time.monotonic() - start, 30)

    def test_other_odd_sets_than_those_told(self):
        # Any odd set is let, so also one with more pairs.
        first, second = set(pairs(FIVE_TIED)), set(pairs(THREE_TO_THREE))
        others = set(pairs((6, tuple(tie for tie in all_ties(6) if 0 not in tie))))
        self.assertIs(shown(SIX_TIED, (tuple(sorted(first ^ second ^ others)), ()), 1), True)


class NotShown(unittest.TestCase):
    """Point 22: what is no such paper, whatever is handed in."""

    def check_not(self, web, thing, number):
        self.assertIs(shown(web, thing, number), False)

    def test_an_odd_set_that_is_none(self):
        self.assertIs(shown(FIVE_TIED, (ONE, ()), 1), True)
        for at in range(len(ONE)):
            self.check_not(FIVE_TIED, (ONE[:at] + ONE[at + 1:], ()), 1)
        for some in ((), ONE[::-1], ONE + ONE, ONE[:1], pairs(THREE_TO_THREE), None, True, 0, "", ((),)):
            self.check_not(FIVE_TIED, (some, ()), 1)
        self.check_not(THREE_TO_THREE, (ONE, ()), 1)
        self.check_not(FOUR_TIED, ((), ()), 1)

    def test_an_odd_set_that_is_none_further_in(self):
        told = paper(FOURTEEN)
        self.assertIs(shown(FOURTEEN, told, 2), True)
        for at, (some, papers) in enumerate(told[1]):
            self.check_not(FOURTEEN, with_paper(told, at, (some[1:], papers)), 2)
            self.check_not(FOURTEEN, with_paper(told, at, ((), papers)), 2)
            self.check_not(FOURTEEN, with_paper(told, at, (some[::-1], papers)), 2)

    def test_a_pair_that_is_met(self):
        told = paper(FOURTEEN)
        for at, (some, papers) in enumerate(told[1]):
            self.assertNotIn(told[0][at], some)
            self.check_not(FOURTEEN, with_paper(told, at, (told[0], ())), 2)

    def test_a_pair_that_is_met_further_in(self):
        chance = random.Random(96)
        told = paper(SIX_TIED)
        for at, pair in enumerate(told[0]):
            within = told[1][at]
            for deeper in range(0, len(within[0]), 5):
                # The odd set at the bottom has the pair that was met at the top, but not the one met behind it;
                # then that one, but not the one at the top.
                behind = within[0][deeper]
                for some in (odd_set_with(SIX_TIED, pair, (behind,), chance),
                             odd_set_with(SIX_TIED, behind, (pair,), chance)):
                    self.assertIs(shown(SIX_TIED, (some, ()), 1), True)
                    self.check_not(SIX_TIED, with_paper(told, at, with_paper(within, deeper, (some, ()))), 3)

    def test_too_few_and_too_many_papers(self):
        for web, number in ((FOURTEEN, 2), (SIX_TIED, 3)):
            some, papers = paper(web)
            self.check_not(web, (some, papers[:-1]), number)
            self.check_not(web, (some, papers[1:]), number)
            self.check_not(web, (some, papers + papers[-1:]), number)
            self.check_not(web, (some, papers + (None,)), number)
            self.check_not(web, (some, ()), number)
            self.check_not(web, (some, papers[:1]), number)
            self.check_not(web, (some,), number)
            self.check_not(web, (some, papers, ()), number)
            self.check_not(web, papers, number)

    def test_too_few_and_too_many_further_in(self):
        told = paper(SIX_TIED)
        for at, (some, papers) in enumerate(told[1]):
            self.check_not(SIX_TIED, with_paper(told, at, (some, papers[:-1])), 3)
            self.check_not(SIX_TIED, with_paper(told, at, (some, papers + papers[:1])), 3)
            self.check_not(SIX_TIED, with_paper(told, at, (some, ())), 3)

    def test_in_another_order(self):
        chance = random.Random(93)
        for web, number in ((FOURTEEN, 2), (SIX_TIED, 3)):
            some, papers = paper(web)
            told = {True: 0, False: 0}
            for each in range(40):
                order = list(papers)
                chance.shuffle(order)
                due = is_paper_by_words(web, (some, tuple(order)), number)
                told[due] += 1
                self.assertIs(shown(web, (some, tuple(order)), number), due)
            self.assertGreater(told[False], 20)
            self.check_not(web, (some, papers[::-1]), number)

    def test_for_another_number(self):
        for web, number in ((FIVE_TIED, 1), (FOURTEEN, 2), (SIX_TIED, 3)):
            for other in (1, 2, 3):
                if other != number:
                    self.check_not(web, paper(web), other)

    def test_numbers_somewhat_beyond(self):
        for web in (FIVE_TIED, FOURTEEN, SIX_TIED):
            for number in (0, -1, 4, 5):
                self.check_not(web, paper(web), number)
                self.check_not(web, None, number)
        self.assertIs(shown(FOUR_TO_FOUR, paper_of(FOUR_TO_FOUR, 2), 2), True)

    def test_for_one_there_are_no_further_papers(self):
        for papers in (None, 0, False, "", (None,), ((),), (0,), ((ONE, ()),), ((ONE, ()),) * len(ONE), ONE, True):
            self.check_not(FIVE_TIED, (ONE, papers), 1)

    def test_of_a_web_that_can_be_drawn_flat(self):
        for web in FLAT_WEBS:
            for number in (1, 2, 3):
                self.check_not(web, (ONE, ()), number)
                self.check_not(web, ((), ()), number)
                self.check_not(web, (pairs(web), ()), number)

    def test_anything_else(self):
        for web in (FIVE_TIED, THREE_TO_THREE, SIX_TIED, (10, EIGHTEEN), FOUR_TIED, (1, ())):
            for number in (1, 2, 3):
                for thing in JUNK + (0, 1, "paper", ((), ()), (((), ()), ((), ())), (ONE,), ONE, (ONE, (), ()),
                                     ((), ONE), ((ONE, ()),), ((ONE, ()), ()), (None, ()), ((None,), ()),
                                     (((None, None),), ())):
                    self.check_not(web, thing, number)

    def test_one_spot_changed_at_each_depth(self):
        for broken in changed((ONE, ()), lambda spot: JUNK):
            self.check_not(FIVE_TIED, broken, 1)
        chance = random.Random(94)
        many = 0
        for broken in changed(paper(FOURTEEN), lambda spot: (chance.choice(JUNK),)):
            many += 1
            self.check_not(FOURTEEN, broken, 2)
        self.assertGreater(many, 1000)

    def test_a_truth_in_the_place_of_a_number(self):
        truths = {0: False, 1: True}
        for web, number in ((FIVE_TIED, 1), (THREE_TO_THREE, 1), (FOURTEEN, 2)):
            told = paper(web)
            for broken in changed(told, lambda spot: [truths[spot]] if spot in (0, 1) else []):
                self.assertEqual(broken, told)
                self.check_not(web, broken, number)


def odd_set_with(web, pair, met, chance):
    """An odd set that has a pair and none of the met ones: other pairs are met by chance until there is one."""
    while True:
        some = odd_set(web, met + tuple(chance.sample(pairs(web), 2)))
        if some is not None and pair in some:
            return some


class Held(unittest.TestCase):
    """Point 3: what the looker lets by is so."""

    def test_no_paper_is_let_by_for_more_than_the_must(self):
        chance = random.Random(95)
        for each in range(60):
            web = (6, tuple(sorted(chance.sample(all_ties(6), chance.randint(10, 14)))))
            number = must(web)[0]
            for other in (1, 2, 3):
                self.assertIs(paper_of(web, other) is not None, other <= number)

    def test_kinds(self):
        for web in (FIVE_TIED, SIX_TIED):
            self.assertIs(type(shown(web, paper(web), 1)), bool)
            self.assertIs(type(shown(web, paper(web), 3)), bool)
            self.assertIs(type(shown(web, None, 1)), bool)


if __name__ == "__main__":
    unittest.main()
