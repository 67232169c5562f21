"""Orders of two rows: points 35, 36 and 37, with points 2 and 3 where they are about them."""

import itertools
import random
import time
import unittest

from leastcross.errors import CrossError, NoOrder
from leastcross.orders import least_lower, middle, settled_rows, table_shows
from leastcross.rows import crossed, number_of
from samples import JUNK, is_of_wholes, repr_of
from tworows import FULL, WRONG_ORDERS, any_order, some_two

SMALL = some_two(60, 5)
ANY = some_two(60)


def over(web):
    """The web with its rows exchanged."""
    return (web[1], web[0], tuple(sorted((b, a) for a, b in web[2])))


def places_of(s):
    return [b for b in range(s.bit_length()) if s >> b & 1]


def shows_by_words(web, upper, number, table):
    """Point 35, word by word."""
    if type(table) is not tuple or len(table) != 2 ** web[1] or any(type(each) is not int for each in table):
        return False
    if table[0] != 0 or table[-1] != number:
        return False
    for s in range(2 ** web[1]):
        for b in places_of(s):
            put_to = sum(number_of(web, upper, d, b) for d in places_of(s) if d != b)
            if table[s] > table[s - 2 ** b] + put_to:
                return False
    return True


class Checked(unittest.TestCase):
    def check_refused(self, call, *handed):
        ahead = repr_of(handed)
        with self.assertRaises(CrossError) as caught:
            call(*handed)
        self.assertIs(type(caught.exception), NoOrder, ahead[-200:])
        self.assertIsInstance(caught.exception, ValueError)
        self.assertEqual(repr_of(handed), ahead)


class LeastLower(Checked):
    """Point 35."""

    def test_against_all_orders(self):
        chance = random.Random(121)
        for web in SMALL:
            upper = any_order(chance, web[0])
            number, lower, table = least_lower(web, upper)
            self.assertEqual(sorted(lower), list(range(web[1])))
            self.assertEqual(crossed(web, upper, lower), number)
            self.assertEqual(number, min(crossed(web, upper, each) for each in itertools.permutations(range(web[1]))))

    def test_each_number_of_the_table(self):
        chance = random.Random(122)
        for web in some_two(25, 4):
            upper = any_order(chance, web[0])
            table = least_lower(web, upper)[2]
            self.assertEqual(len(table), 2 ** web[1])
            for s, number in enumerate(table):
                some = (web[0], web[1], tuple(tie for tie in web[2] if s >> tie[1] & 1))
                self.assertEqual(number, min(crossed(some, upper, each) for each in itertools.permutations(range(web[1]))))

    def test_kinds_and_again(self):
        chance = random.Random(123)
        for web in ANY:
            upper = any_order(chance, web[0])
            told = least_lower(web, upper)
            self.assertTrue(is_of_wholes(told))
            self.assertEqual(least_lower(web, upper), told)
            self.assertEqual(len(told), 3)
            self.assertEqual(crossed(web, upper, told[1]), told[0])
            self.assertEqual(told[2][-1], told[0])

    def test_seven_and_seven_places_in_a_short_time(self):
        chance = random.Random(124)
        for each in range(5):
            upper = any_order(chance, 7)
            start = time.monotonic()
            number, lower, table = least_lower(FULL, upper)
            self.assertIs(table_shows(FULL, upper, number, table), True)
            settled_rows(FULL, upper)
            self.assertLess(time.monotonic() - start, 2)
            self.assertEqual(crossed(FULL, upper, lower), number)
        least = min(crossed(FULL, upper, each) for each in itertools.permutations(range(7)))
        self.assertEqual(number, least)

    def test_known_ones(self):
        self.assertEqual(least_lower((1, 1, ()), (0,)), (0, (0,), (0, 0)))
        self.assertEqual(least_lower((2, 2, ((0, 1), (1, 0))), (0, 1)), (0, (1, 0), (0, 0, 0, 0)))
        self.assertEqual(least_lower((2, 2, ((0, 0), (0, 1), (1, 0), (1, 1))), (1, 0))[::2], (1, (0, 0, 0, 1)))

    def test_no_order(self):
        web = (3, 2, ((0, 0), (1, 1), (2, 0)))
        table = least_lower(web, (0, 1, 2))[2]
        for wrong in WRONG_ORDERS:
            self.check_refused(least_lower, web, wrong)
            self.check_refused(table_shows, web, wrong, 1, table)
            self.check_refused(table_shows, web, wrong, 1, None)
            self.check_refused(middle, web, wrong)
            self.check_refused(settled_rows, web, wrong)


class TableShows(Checked):
    """Point 35."""

    def test_tables_told(self):
        chance = random.Random(125)
        for web in ANY:
            upper = any_order(chance, web[0])
            number, lower, table = least_lower(web, upper)
            self.assertIs(table_shows(web, upper, number, table), True)
            for other in (number + 1, number - 1, -1, 10 ** 30):
                self.assertIs(table_shows(web, upper, other, table), False)

    def test_wrong_tables(self):
        chance = random.Random(126)
        for web in ANY:
            upper = any_order(chance, web[0])
            number, lower, table = least_lower(web, upper)
            self.assertIs(table_shows(web, upper, number + 1, table[:-1] + (number + 1,)), False)
            at = chance.randrange(1, len(table))
            self.assertIs(table_shows(web, upper, number, table[:at] + (table[at] + 1,) + table[at + 1:]), False)
            self.assertIs(table_shows(web, upper, number, (1,) + table[1:]), False)
            self.assertIs(table_shows(web, upper, number, (-1,) + table[1:]), False)
            for wrong in (table[:-1], table[1:], table + (number,), table + table, list(table), None, (), str(table),
                          (False,) + table[1:], table[:-1] + (str(number),), table[:-1] + (None,), (table,)) + JUNK:
                self.assertIs(table_shows(web, upper, number, wrong), False)

    def test_truths_in_the_place_of_numbers(self):
        web = (2, 2, ((0, 0), (0, 1), (1, 0), (1, 1)))
        self.assertIs(table_shows(web, (0, 1), 1, (0, 0, 0, 1)), True)
        for wrong in ((False, 0, 0, 1), (0, False, 0, 1), (0, 0, False, 1), (0, 0, 0, True)):
            self.assertIs(table_shows(web, (0, 1), 1, wrong), False)
        self.assertIs(table_shows(web, (0, 1), True, (0, 0, 0, 1)), False)

    def test_other_tables_word_by_word(self):
        chance = random.Random(127)
        told = {True: 0, False: 0}
        for web in SMALL * 6:
            upper = any_order(chance, web[0])
            number, lower, table = least_lower(web, upper)
            other = list(table)
            for each in range(chance.randint(1, 3)):
                at = chance.randrange(len(table))
                other[at] += chance.choice((-2, -1, -1, 0, 1))
            shown = table_shows(web, upper, other[-1], tuple(other))
            self.assertIs(shown, shows_by_words(web, upper, other[-1], tuple(other)))
            if shown:
                self.assertLessEqual(other[-1], number)
            told[shown] += 1
        self.assertGreater(min(told.values()), 30)

    def test_lesser_tables_show_lesser_numbers(self):
        # The last number is bound from above alone, and so may be below nought.
        web = (2, 2, ((0, 0), (0, 1), (1, 0), (1, 1)))
        self.assertIs(table_shows(web, (0, 1), 0, (0, 0, 0, 0)), True)
        self.assertIs(table_shows(web, (0, 1), -5, (0, 0, 0, -5)), True)
        self.assertIs(table_shows(web, (0, 1), -4, (0, -5, 0, -4)), True)
        self.assertIs(table_shows(web, (0, 1), -3, (0, -5, 0, -3)), False)


class Middle(Checked):
    """Point 36."""

    def by_words(self, web, upper):
        keys = []
        for b in range(web[1]):
            places = [a for a in upper if (a, b) in web[2]]
            where = upper.index(places[len(places) // 2]) if places else -1
            keys.append((where, "even odd".split()[len(places) % 2], b))
        return tuple(b for where, word, b in sorted(keys))

    def test_word_by_word(self):
        chance = random.Random(128)
        for web in ANY + SMALL:
            for each in range(3):
                upper = any_order(chance, web[0])
                told = middle(web, upper)
                self.assertEqual(told, self.by_words(web, upper))
                self.assertTrue(is_of_wholes(told))
                self.assertEqual(middle(web, upper), told)

    def test_known_ones(self):
        # By an odd and an even number of ties: the second one of three, of two the second one.
        web = (4, 2, ((0, 0), (2, 0), (3, 0), (0, 1), (1, 1)))
        web = web[:2] + (tuple(sorted(web[2])),)
        self.assertEqual(middle(web, (0, 1, 2, 3)), (1, 0))
        self.assertEqual(middle(web, (3, 2, 1, 0)), (0, 1))
        # Places without ties come first; of alike middles the even one, then the lesser one.
        self.assertEqual(middle((2, 4, ((0, 0), (0, 3))), (0, 1)), (1, 2, 0, 3))
        self.assertEqual(middle((3, 3, ((0, 1), (1, 0), (1, 1), (1, 2))), (0, 1, 2)), (1, 0, 2))
        self.assertEqual(middle((1, 3, ()), (0,)), (0, 1, 2))

    def test_at_most_three_times_the_lesser_numbers(self):
        chance = random.Random(129)
        for web in ANY + SMALL + [FULL]:
            for each in range(4):
                upper = any_order(chance, web[0])
                least = sum(min(number_of(web, upper, b, d), number_of(web, upper, d, b))
                            for b, d in itertools.combinations(range(web[1]), 2))
                self.assertLessEqual(crossed(web, upper, middle(web, upper)), 3 * least)
                self.assertGreaterEqual(least_lower(web, upper)[0], least)


class SettledRows(Checked):
    """Point 37."""

    def test_each_is_least_for_the_other(self):
        chance = random.Random(130)
        moved = 0
        for web in ANY + SMALL + [FULL]:
            upper = any_order(chance, web[0])
            told = settled_rows(web, upper)
            self.assertTrue(is_of_wholes(told))
            self.assertEqual(settled_rows(web, upper), told)
            self.assertEqual([sorted(order) for order in told], [list(range(web[0])), list(range(web[1]))])
            number = crossed(web, *told)
            self.assertEqual(number, least_lower(web, told[0])[0])
            self.assertEqual(number, least_lower(over(web), told[1])[0])
            self.assertLessEqual(number, least_lower(web, upper)[0])
            moved += number < least_lower(web, upper)[0]
        self.assertGreater(moved, 20)

    def test_comes_of_the_upper_order(self):
        """All that comes by putting the rows in turn, each in whatever order with the fewest crossings."""
        chance = random.Random(131)
        for web in some_two(40, 4):
            upper = any_order(chance, web[0])
            uppers, pairs = {upper}, set()
            ahead = [upper]
            while ahead:
                now = ahead.pop()
                for lower in self.least_orders(web, now):
                    pairs.add((now, lower))
                    for then in self.least_orders(over(web), lower):
                        pairs.add((then, lower))
                        if then not in uppers:
                            uppers.add(then)
                            ahead.append(then)
            self.assertIn(settled_rows(web, upper), pairs)

    def least_orders(self, web, upper):
        orders = list(itertools.permutations(range(web[1])))
        least = min(crossed(web, upper, each) for each in orders)
        return [each for each in orders if crossed(web, upper, each) == least]

    def test_against_all_orders(self):
        chance = random.Random(132)
        for web in SMALL[:30]:
            upper, lower = settled_rows(web, any_order(chance, web[0]))
            number = crossed(web, upper, lower)
            self.assertEqual(number, min(crossed(web, upper, each) for each in itertools.permutations(range(web[1]))))
            self.assertEqual(number, min(crossed(web, each, lower) for each in itertools.permutations(range(web[0]))))


if __name__ == "__main__":
    unittest.main()
