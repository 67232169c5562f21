"""Webs: points 4, 5 and 6, with points 1 and 2 where they are about webs."""

import itertools
import random
import unittest

from leastcross.errors import CrossError, NoWeb
from leastcross.webs import by_turns, pairs, parts, web
from samples import EIGHTEEN, JUNK, all_ties, any_web, is_of_wholes


class Made(unittest.TestCase):
    """Point 4: what a web is made of."""

    def test_a_web_is_a_number_and_its_ties(self):
        self.assertEqual(web(3, ((0, 1), (1, 2))), (3, ((0, 1), (1, 2))))

    def test_ties_in_any_order(self):
        ties = ((0, 1), (0, 3), (1, 2), (2, 3))
        for told in itertools.permutations(ties):
            self.assertEqual(web(4, told), (4, ties))

    def test_ties_told_the_other_way_round(self):
        self.assertEqual(web(4, ((3, 0), (2, 1), (0, 2))), (4, ((0, 2), (0, 3), (1, 2))))

    def test_ties_told_more_than_once(self):
        self.assertEqual(web(3, ((1, 2), (0, 1), (2, 1), (1, 2), (1, 0))), (3, ((0, 1), (1, 2))))

    def test_one_place(self):
        self.assertEqual(web(1, ()), (1, ()))

    def test_ten_places(self):
        self.assertEqual(web(10, ((9, 0), (8, 9))), (10, ((0, 9), (8, 9))))

    def test_each_number_from_one_to_ten_without_ties(self):
        for n in range(1, 11):
            self.assertEqual(web(n, ()), (n, ()))

    def test_eighteen_ties(self):
        self.assertEqual(web(7, EIGHTEEN[::-1]), (7, EIGHTEEN))

    def test_more_told_but_eighteen_unlike(self):
        turned = tuple((j, i) for i, j in EIGHTEEN)
        self.assertEqual(web(7, EIGHTEEN + turned + EIGHTEEN), (7, EIGHTEEN))

    def test_a_web_told_is_made_of_itself(self):
        chance = random.Random(4)
        for each in range(100):
            n, ties = any_web(chance)
            told = [chance.choice((tie, tie[::-1])) for tie in ties + ties]
            chance.shuffle(told)
            self.assertEqual(web(n, tuple(told)), (n, ties))
            self.assertEqual(web(n, ties), (n, ties))

    def test_told_are_tuples_and_whole_numbers_themselves(self):
        self.assertTrue(is_of_wholes(web(7, EIGHTEEN + EIGHTEEN)))
        self.assertTrue(is_of_wholes(web(1, ())))


class Refused(unittest.TestCase):
    """Point 4: what is refused with NoWeb, whatever is handed in."""

    def refuses(self, n, some):
        # Not assertRaises: the kinds handed in must lead to this very class.
        try:
            web(n, some)
        except CrossError as refusal:
            self.assertIs(type(refusal), NoWeb)
            self.assertIsInstance(refusal, ValueError)
        else:
            self.fail("not refused")

    def test_numbers_that_are_not_from_one_to_ten(self):
        for n in (0, 11, -1, -10, 12, 10 ** 30, 10 ** 5000, -10 ** 5000, True, False, "", "3", None, (), (3,), ((),)):
            with self.subTest(kind=type(n)):
                self.refuses(n, ())
                self.refuses(n, ((0, 1),))

    def test_truth_as_the_number_of_one_place(self):
        self.refuses(True, ())

    def test_what_is_no_tuple_of_ties(self):
        for some in (None, 0, 3, -1, True, False, "", "01", "ab", 10 ** 5000):
            self.refuses(3, some)

    def test_one_tie_in_the_place_of_the_tuple(self):
        self.refuses(3, (0, 1))

    def test_one_in_it_that_is_no_tie(self):
        great = 10 ** 5000
        wrong = (
            (1, 1), (0, 0), (-1, 0), (0, -1), (-1, 2), (0, 3), (3, 0), (3, 4), (0, great), (great, 0),
            (great, great + 1), (-great, 0), (0, True), (True, 0), (False, 1), (1, False), (False, True),
            (True, 2), ("0", "1"), (0, "1"), ("a", 0), (None, 1), (1, None), (None, None), (), (0,), (1,),
            (0, 1, 2), (0, 1, 1), (0, 0, 1), ((0, 1),), ((0, 1), (1, 2)), ((0,), (1,)), (0, (1,)), (0, ()),
            None, 0, 1, True, False, "", "01", "ab", great,
        )
        for told in wrong:
            with self.subTest(at=wrong.index(told)):
                self.refuses(3, (told,))
                self.refuses(3, ((0, 1), (1, 2), told))
                self.refuses(3, (told, (0, 1)))
                self.refuses(3, ((0, 1), told, (0, 1)))

    def test_the_only_place_has_no_tie(self):
        self.refuses(1, ((0, 0),))
        self.refuses(1, ((0, 1),))

    def test_nineteen_unlike_ties(self):
        nineteen = all_ties(7)[:19]
        self.refuses(7, nineteen)
        self.refuses(7, nineteen[::-1])
        self.refuses(10, all_ties(10)[-19:])
        self.refuses(10, all_ties(10))

    def test_anything_with_anything(self):
        for n in JUNK:
            for some in JUNK + ((), ((0, 1),)):
                self.refuses(n, some)
        for some in JUNK:
            if some != ():
                self.refuses(5, some)
            if some != (0, 1):
                self.refuses(5, (some,))


class Parts(unittest.TestCase):
    """Point 5."""

    def test_one_place(self):
        self.assertEqual(parts((1, ())), ((0,),))

    def test_places_without_ties(self):
        self.assertEqual(parts((3, ())), ((0,), (1,), (2,)))
        self.assertEqual(parts((10, ())), tuple((place,) for place in range(10)))

    def test_one_part(self):
        self.assertEqual(parts((7, EIGHTEEN)), ((0, 1, 2, 3, 4, 5, 6),))

    def test_several_parts(self):
        self.assertEqual(parts((6, ((0, 4), (1, 2), (2, 5)))), ((0, 4), (1, 2, 5), (3,)))
        self.assertEqual(parts((5, ((1, 3), (2, 4)))), ((0,), (1, 3), (2, 4)))

    def test_parts_that_grow_together_late(self):
        self.assertEqual(parts((6, ((0, 5), (1, 4), (2, 3), (3, 4), (4, 5)))), ((0, 1, 2, 3, 4, 5),))

    def test_all_chains_of_five_places(self):
        for chain in itertools.permutations(range(1, 6)):
            made = web(7, tuple(zip(chain, chain[1:])))
            self.assertEqual(parts(made), ((0,), (1, 2, 3, 4, 5), (6,)))

    def test_long_chain_not_rising(self):
        chain = (9, 0, 8, 1, 7, 2, 6, 3, 5, 4)
        self.assertEqual(parts(web(10, tuple(zip(chain, chain[1:])))), (tuple(range(10)),))

    def test_as_one_goes_from_place_to_place(self):
        chance = random.Random(5)
        for each in range(200):
            n, ties = any_web(chance)
            reached = []
            for place in range(n):
                seen = {place}
                for again in range(n):
                    seen |= {at for tie in ties if set(tie) & seen for at in tie}
                reached.append(tuple(sorted(seen)))
            self.assertEqual(parts((n, ties)), tuple(sorted(set(reached))))

    def test_told_are_tuples_and_whole_numbers_themselves(self):
        self.assertTrue(is_of_wholes(parts((6, ((0, 4), (1, 2), (2, 5))))))


class Pairs(unittest.TestCase):
    """Point 6."""

    def test_no_pairs(self):
        self.assertEqual(pairs((1, ())), ())
        self.assertEqual(pairs((2, ((0, 1),))), ())
        self.assertEqual(pairs((3, ((0, 1), (0, 2), (1, 2)))), ())

    def test_the_pairs_of_four_places(self):
        made = web(4, all_ties(4))
        self.assertEqual(pairs(made), (((0, 1), (2, 3)), ((0, 2), (1, 3)), ((0, 3), (1, 2))))

    def test_pairs_by_the_words(self):
        chance = random.Random(6)
        for each in range(100):
            made = any_web(chance)
            by_words = [(one, other) for one in made[1] for other in made[1]
                        if one < other and len({*one, *other}) == 4]
            self.assertEqual(pairs(made), tuple(sorted(by_words)))

    def test_told_are_tuples_and_whole_numbers_themselves(self):
        told = pairs((7, EIGHTEEN))
        self.assertTrue(told)
        self.assertTrue(is_of_wholes(told))


class ByTurns(unittest.TestCase):
    """Point 6."""

    def test_by_turns_in_either_order(self):
        self.assertIs(by_turns((0, 2), (1, 3)), True)
        self.assertIs(by_turns((1, 3), (0, 2)), True)

    def test_beside_and_within(self):
        for one, other in (((0, 1), (2, 3)), ((0, 3), (1, 2)), ((0, 9), (4, 5))):
            self.assertIs(by_turns(one, other), False)
            self.assertIs(by_turns(other, one), False)

    def test_ties_with_a_common_place(self):
        for one, other in (((0, 1), (0, 2)), ((0, 1), (1, 2)), ((0, 2), (1, 2)), ((0, 2), (0, 2))):
            self.assertIs(by_turns(one, other), False)
            self.assertIs(by_turns(other, one), False)

    def test_all_ties_as_they_stand_on_a_circle(self):
        for one in all_ties(7):
            for other in all_ties(7):
                within = [place for place in other if one[0] < place < one[1]]
                common = set(one) & set(other)
                self.assertIs(by_turns(one, other), len(within) == 1 and not common)


class Again(unittest.TestCase):
    """Point 2: who asks the same again is told the same."""

    def test_webs_parts_and_pairs(self):
        told = ((3, 0), (2, 1), (0, 2), (5, 1), (0, 2))
        first = web(6, told)
        self.assertEqual(parts(first), parts(first))
        self.assertEqual(pairs(first), pairs(first))
        self.assertEqual(web(6, told), first)

    def test_a_refusal_changes_nothing(self):
        with self.assertRaises(NoWeb):
            web(11, ())
        self.assertEqual(web(2, ((0, 1),)), (2, ((0, 1),)))
        with self.assertRaises(NoWeb):
            web(11, ())


if __name__ == "__main__":
    unittest.main()
