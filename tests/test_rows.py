"""Two rows: points 33, 34 and 38, with points 2 and 3 where they are about them."""

import itertools
import random
import unittest

from leastcross.drawings import count, count_of, is_drawing, plain
from leastcross.errors import CrossError, NoOrder, NoWeb, TooMany
from leastcross.faces import stands
from leastcross.lenses import lenses
from leastcross.rows import crossed, number_of, row_drawing, two
from leastcross.straight import straight
from samples import JUNK, is_of_wholes, repr_of
from tworows import FULL, WRONG_ORDERS, any_order, any_two, some_two


def all_across(p, q):
    return tuple(itertools.product(range(p), range(q)))


def crossed_by_lines(web, upper, lower):
    """How many pairs of ties cross, as straight stretches between points in the two rows, by leftness of points."""
    def left(a, b, c):
        return (b[0] - a[0]) * (c[1] - a[1]) - (b[1] - a[1]) * (c[0] - a[0])

    lines = [((upper.index(a), 1), (lower.index(b), 0)) for a, b in web[2]]
    number = 0
    for (a, b), (c, d) in itertools.combinations(lines, 2):
        number += left(a, b, c) * left(a, b, d) < 0 and left(c, d, a) * left(c, d, b) < 0
    return number


class Checked(unittest.TestCase):
    def check_refused(self, kind, call, *handed):
        ahead = repr_of(handed)
        with self.assertRaises(CrossError) as caught:
            call(*handed)
        self.assertIs(type(caught.exception), kind, ahead[-200:])
        self.assertIsInstance(caught.exception, ValueError)
        self.assertEqual(repr_of(handed), ahead)


class Two(Checked):
    """Point 33."""

    def test_in_any_order_and_twice(self):
        self.assertEqual(two(2, 3, ((1, 2), (0, 0), (1, 0), (0, 0), (1, 2))), (2, 3, ((0, 0), (1, 0), (1, 2))))
        self.assertEqual(two(1, 1, ()), (1, 1, ()))
        self.assertEqual(two(1, 1, ((0, 0),) * 40), (1, 1, ((0, 0),)))
        self.assertEqual(two(7, 7, ((6, 0), (0, 6))), (7, 7, ((0, 6), (6, 0))))

    def test_one_to_seven_places_in_each_row(self):
        chance = random.Random(111)
        for p in range(1, 8):
            for q in range(1, 8):
                across = all_across(p, q)
                some = chance.sample(across, chance.randint(0, min(18, len(across))))
                told = two(p, q, tuple(chance.choices(some, k=30)) + tuple(some) if some else ())
                self.assertEqual(told, (p, q, tuple(sorted(some))))
                self.assertTrue(is_of_wholes(told))

    def test_up_to_eighteen_unlike_ties(self):
        for many in range(19):
            some = all_across(5, 4)[:many]
            self.assertEqual(two(5, 4, some[::-1] + some), (5, 4, some))

    def test_more_than_eighteen(self):
        for some in (all_across(5, 4)[:19], all_across(7, 7), all_across(5, 4)[:19] * 2):
            self.check_refused(NoWeb, two, 7, 7, some)

    def test_numbers(self):
        for wrong in (0, 8, -1, 10, 10 ** 30, True, False, "3", None, (3,), (), [3]):
            self.check_refused(NoWeb, two, wrong, 3, ())
            self.check_refused(NoWeb, two, 3, wrong, ())
            self.check_refused(NoWeb, two, wrong, wrong, None)

    def test_no_tuple(self):
        for wrong in (None, 0, True, "", "00", [], [(0, 0)], 7):
            self.check_refused(NoWeb, two, 3, 3, wrong)

    def test_ties(self):
        for wrong in JUNK + ((3, 0), (0, 4), (-1, 0), (0, -1), (0,), (0, 0, 0), [0, 0], (True, 0), (0, False), ("0", 0),
                             (0, None), ((0,), 0), "00", 0):
            if wrong == (0, 1) and wrong[0] is not False:
                continue
            for some in ((wrong,), ((0, 0), wrong), (wrong, (2, 3))):
                self.check_refused(NoWeb, two, 3, 4, some)
        # The two rows have their own numbers.
        self.assertEqual(two(3, 4, ((2, 3), (0, 0))), (3, 4, ((0, 0), (2, 3))))
        self.check_refused(NoWeb, two, 4, 3, ((2, 3),))


class Crossed(Checked):
    """Point 34."""

    def test_against_lines(self):
        chance = random.Random(112)
        for web in some_two(120):
            for each in range(3):
                upper, lower = any_order(chance, web[0]), any_order(chance, web[1])
                told = crossed(web, upper, lower)
                self.assertIs(type(told), int)
                self.assertEqual(told, crossed_by_lines(web, upper, lower))
                self.assertEqual(crossed(web, upper, lower), told)
                self.assertEqual(crossed(web, upper[::-1], lower[::-1]), told)

    def test_known_ones(self):
        pair = (2, 2, ((0, 0), (1, 1)))
        self.assertEqual(crossed(pair, (0, 1), (0, 1)), 0)
        self.assertEqual(crossed(pair, (1, 0), (0, 1)), 1)
        self.assertEqual(crossed(pair, (0, 1), (1, 0)), 1)
        self.assertEqual(crossed(pair, (1, 0), (1, 0)), 0)
        # Three all tied to three: each two above and each two below make one crossing.
        self.assertEqual(crossed((3, 3, all_across(3, 3)), (1, 0, 2), (2, 1, 0)), 9)
        self.assertEqual(crossed((1, 1, ()), (0,), (0,)), 0)

    def test_a_common_place_is_no_crossing(self):
        chance = random.Random(113)
        for many in range(1, 8):
            for web in ((1, 7, tuple((0, b) for b in range(many))), (7, 1, tuple((a, 0) for a in range(many)))):
                self.assertEqual(crossed(web, any_order(chance, web[0]), any_order(chance, web[1])), 0)

    def test_numbers(self):
        for web in some_two(60):
            upper = any_order(random.Random(len(web[2])), web[0])
            for b, d in itertools.permutations(range(web[1]), 2):
                mine = [a for a, each in web[2] if each == b]
                others = [a for a, each in web[2] if each == d]
                number = sum(1 for a in mine for c in others if upper.index(a) > upper.index(c))
                self.assertEqual(number_of(web, upper, b, d), number)
                # As the two stand alone, b ahead.
                alone = (web[0], web[1], tuple(tie for tie in web[2] if tie[1] in (b, d)))
                rest = tuple(each for each in range(web[1]) if each not in (b, d))
                self.assertEqual(crossed(alone, upper, (b, d) + rest), number)

    def test_the_sum_of_the_numbers(self):
        chance = random.Random(114)
        for web in some_two(80):
            upper, lower = any_order(chance, web[0]), any_order(chance, web[1])
            number = sum(number_of(web, upper, b, d) for b, d in itertools.combinations(lower, 2))
            self.assertEqual(crossed(web, upper, lower), number)

    def test_no_order(self):
        web = (3, 2, ((0, 0), (1, 1), (2, 0)))
        for wrong in WRONG_ORDERS:
            self.check_refused(NoOrder, crossed, web, wrong, (0, 1))
            self.check_refused(NoOrder, number_of, web, wrong, 0, 1)
            self.check_refused(NoOrder, crossed, (2, 3, ()), (0, 1), wrong)
            self.check_refused(NoOrder, row_drawing, web, wrong, (0, 1))
            self.check_refused(NoOrder, row_drawing, (2, 3, ()), (0, 1), wrong)
            self.check_refused(NoOrder, crossed, web, wrong, None)
        self.assertEqual(crossed(web, (2, 0, 1), (1, 0)), 2)

    def test_an_upper_one_ahead_of_a_lower_one(self):
        # Both are refused by one class: so the order shows in what is refused alone.
        for call in (crossed, row_drawing):
            self.check_refused(NoOrder, call, FULL, None, None)
            self.check_refused(NoOrder, call, FULL, tuple(range(7)), None)
            self.check_refused(NoOrder, call, FULL, None, tuple(range(7)))


class RowDrawing(Checked):
    """Point 38."""

    def check_rows(self, web, upper, lower):
        p, q, ties = web
        told = row_drawing(web, upper, lower)
        self.assertIs(is_drawing(told), True)
        self.assertTrue(is_of_wholes(told))
        self.assertEqual(plain(told), told)
        self.assertIs(stands(told), True)
        self.assertEqual(told[:2], (p + q, tuple((a, p + b) for a, b in ties)))
        self.assertEqual(count(told), crossed(web, upper, lower))
        self.assertEqual(lenses(told), ())
        for (a, b), (c, d) in itertools.combinations(ties, 2):
            do_cross = (upper.index(a) - upper.index(c)) * (lower.index(b) - lower.index(d)) < 0
            self.assertEqual(count_of(told, (a, p + b), (c, p + d)), int(do_cross))
        for one, other, side in told[4]:
            self.assertEqual(side, 1 if upper.index(other[0]) < upper.index(one[0]) else 0)
        for a in range(p):
            self.check_ring(told[2][a], [p + b for b in lower if (a, b) in ties])
        for b in range(q):
            self.check_ring(told[2][p + b], [a for a in reversed(upper) if (a, b) in ties])
        self.assertEqual(row_drawing(web, upper, lower), told)

    def check_ring(self, ring, due):
        self.assertEqual(len(ring), len(due))
        if due:
            at = due.index(ring[0])
            self.assertEqual(ring, tuple(due[at:] + due[:at]))

    def test_any(self):
        chance = random.Random(115)
        for each in range(150):
            p = chance.randint(1, 7)
            q = chance.randint(1, min(7, 10 - p))
            web = any_two(chance, p, q)
            self.check_rows(web, any_order(chance, p), any_order(chance, q))

    def test_many_ties_through_one_point_if_gaps_were_alike(self):
        for many in (3, 4, 5):
            across = tuple((a, a) for a in range(many))
            self.check_rows((many, many, across), tuple(range(many)), tuple(range(many))[::-1])
        self.check_rows((4, 4, all_across(4, 4)), (0, 1, 2, 3), (3, 2, 1, 0))
        self.check_rows((3, 6, all_across(3, 6)), (2, 0, 1), (5, 2, 0, 1, 3, 4))
        self.check_rows((6, 3, all_across(6, 3)), (5, 2, 0, 1, 3, 4), (2, 0, 1))
        self.check_rows((7, 3, all_across(7, 3)[:18]), (6, 5, 4, 3, 2, 1, 0), (2, 0, 1))
        self.check_rows((3, 7, all_across(3, 7)[:18]), (2, 0, 1), (6, 5, 4, 3, 2, 1, 0))

    def test_a_straight_one(self):
        web = (2, 2, all_across(2, 2))
        points = ((0, 1), (1, 1), (0, 0), (1, 0))
        self.assertEqual(row_drawing(web, (0, 1), (0, 1)), straight((4, ((0, 2), (0, 3), (1, 2), (1, 3))), points))

    def test_too_many(self):
        for p, q in ((4, 7), (7, 4), (7, 7), (5, 6)):
            for ties in ((), ((0, 0),), all_across(p, q)[:18]):
                self.check_refused(TooMany, row_drawing, (p, q, ties), tuple(range(p)), tuple(range(q)))
                self.check_refused(NoOrder, row_drawing, (p, q, ties), tuple(range(q)) + (0,), tuple(range(q)))
                self.check_refused(NoOrder, row_drawing, (p, q, ties), tuple(range(p)), None)
        for p, q in ((3, 7), (7, 3), (5, 5)):
            self.check_rows((p, q, all_across(p, q)[:18]), tuple(range(p)), tuple(range(q)))


if __name__ == "__main__":
    unittest.main()
