"""Lenses: points 29, 30 and 31, with points 2 and 3 where they are about them."""

import itertools
import random
import time
import unittest

from leastcross.drawings import count, count_of, is_drawing, plain
from leastcross.errors import CrossError, NoLens
from leastcross.faces import stands
from leastcross.flat import flat
from leastcross.lenses import lenses, loosened, tidied
from leastcross.odd import odd_set
from samples import (COMMON_PLACE, JUNK, ONE_PLACE, ROUND_FOUR, TEN_PLACES, TWICE, changed, is_of_wholes, repr_of,
                     told_otherwise)
from standing import crosses_again, great_bent, some_standing, some_wandered
from turns import Turns

CROSSED = [drawing for drawing in some_standing() if crosses_again(drawing)]
CROSSED += [drawing for drawing in some_wandered(60, 5, 6, 8, 96) if crosses_again(drawing)]
STANDING = some_standing(20)


def lenses_by_words(drawing):
    """Point 29, word by word."""
    n, ties, rings, ways, crossings = plain(drawing)
    found = []
    for one, other in itertools.permutations(ties, 2):
        common = set(one) & set(other)
        way = ways[ties.index(one)]
        spots = {number: at for at, number in enumerate(way) if set(crossings[number][:2]) == {one, other}}
        for first, second in itertools.permutations(spots, 2):
            if spots[first] < spots[second]:
                if not any(spots[first] < spot < spots[second] for spot in spots.values()):
                    found.append((one, other, first, second))
        for number in spots:
            if common == {one[0]} and not any(spot < spots[number] for spot in spots.values()):
                found.append((one, other, -1, number))
            if common == {one[1]} and not any(spot > spots[number] for spot in spots.values()):
                found.append((one, other, -1, number))
    return tuple(sorted(found))


class Loosening:
    """Point 30: the ties as walks over the pieces, from which a drawing is read off again."""

    def __init__(self, drawing, lens):
        self.drawing = plain(drawing)
        self.turns = Turns(self.drawing)
        self.one, self.other, *self.ends = lens
        self.walks = {tie: [(*tie, k) for k in range(len(stops) - 1)] for tie, stops in self.turns.stops.items()}
        self.loops = 0
        self.exchange()
        self.cut_loops()

    def stop(self, end):
        return ("crossing", end) if end != -1 else ("place", *(set(self.one) & set(self.other)))

    def in_three(self, tie):
        """The walk of a tie ahead of the lens, in it and behind it; and whether first is ahead of second."""
        first, second = (self.turns.stops[tie].index(self.stop(end)) for end in self.ends)
        low, high = sorted((first, second))
        walk = self.walks[tie]
        return walk[:low], walk[low:high], walk[high:], first < second

    def about(self, walk):
        return [self.turns.turned_about(step) for step in reversed(walk)]

    def exchange(self):
        ahead, between, behind, up = self.in_three(self.one)
        other_ahead, other_between, other_behind, other_up = self.in_three(self.other)
        if up != other_up:
            between, other_between = self.about(between), self.about(other_between)
        self.walks[self.one] = ahead + other_between + behind
        self.walks[self.other] = other_ahead + between + other_behind

    def stops_of(self, walk):
        return [self.turns.ends_at(self.turns.turned_about(walk[0]))] + [self.turns.ends_at(step) for step in walk]

    def cut_loops(self):
        """Leave out what lies between the first and the second time at a stop, going along one."""
        at = 0
        while at <= len(self.walks[self.one]):
            stops = self.stops_of(self.walks[self.one])
            if stops.count(stops[at]) > 1:
                again = stops.index(stops[at], at + 1)
                self.walks[self.one] = self.walks[self.one][:at] + self.walks[self.one][again:]
                self.loops += 1
            at += 1

    def passings(self):
        """For each stop the ties that go through it: (tie, where it comes from, where it goes on), as it turns."""
        found = {stop: [] for stop in self.turns.round}
        for tie, walk in self.walks.items():
            for step, then in zip(walk, walk[1:]):
                leaving = self.turns.round[self.turns.ends_at(step)]
                found[self.turns.ends_at(step)].append(
                    (tie, leaving.index(self.turns.turned_about(step)), leaving.index(then)))
        return found

    def drawn(self):
        n, ties, rings, ways, crossings = self.drawing
        left = {}
        for stop, passing in self.passings().items():
            if len(passing) == 2:
                (one, back, on), (other, other_back, other_on) = sorted(passing)
                # Straight on goes who leaves opposite to where he came from; else the two only touch.
                if (on - back) % 4 == 2 and (other_on - other_back) % 4 == 2:
                    left[stop] = (one, other, 1 if other_on == (on + 1) % 4 else 0)
        number = {stop: at for at, stop in enumerate(left)}
        new_rings = []
        for place in range(n):
            far = {walk[0]: tie[1] for tie, walk in self.walks.items() if tie[0] == place}
            far.update({self.turns.turned_about(walk[-1]): tie[0] for tie, walk in self.walks.items() if tie[1] == place})
            new_rings.append(tuple(far[step] for step in self.turns.round["place", place]))
        new_ways = [tuple(number[stop] for stop in self.stops_of(self.walks[tie]) if stop in number) for tie in ties]
        return plain((n, ties, tuple(new_rings), tuple(new_ways), tuple(left.values())))


class Checked(unittest.TestCase):
    def check_drawing(self, told, web):
        self.assertIs(is_drawing(told), True)
        self.assertEqual(told[:2], web)
        self.assertEqual(plain(told), told)
        self.assertTrue(is_of_wholes(told))
        self.assertIs(stands(told), True)

    def check_refused(self, drawing, lens):
        ahead = repr_of((drawing, lens))
        with self.assertRaises(CrossError) as caught:
            loosened(drawing, lens)
        self.assertIs(type(caught.exception), NoLens, ahead[-200:])
        self.assertIsInstance(caught.exception, ValueError)
        self.assertEqual(repr_of((drawing, lens)), ahead)


class Lenses(Checked):
    """Point 29."""

    def test_word_by_word(self):
        for drawing in STANDING + CROSSED:
            told = lenses(drawing)
            self.assertEqual(told, lenses_by_words(drawing))
            self.assertTrue(is_of_wholes(told))
            self.assertEqual(told, tuple(sorted(set(told))))
            self.assertEqual(lenses(drawing), told)

    def test_great_ones(self):
        for bent in great_bent(2):
            self.assertEqual(lenses(bent.drawing()), lenses_by_words(bent.drawing()))

    def test_numbers_of_the_plain_drawing(self):
        chance = random.Random(97)
        for drawing in CROSSED:
            self.assertEqual(lenses(told_otherwise(drawing, chance)), lenses(plain(drawing)))

    def test_two_crossings(self):
        self.assertEqual(lenses(TWICE), (((0, 1), (2, 3), 0, 1), ((2, 3), (0, 1), 0, 1)))
        # The other one comes to the later crossing of the one earlier.
        turned = TWICE[:3] + (((0, 1), (1, 0)), (((0, 1), (2, 3), 1), ((0, 1), (2, 3), 0)))
        self.assertEqual(lenses(turned), (((0, 1), (2, 3), 0, 1), ((2, 3), (0, 1), 1, 0)))

    def test_common_place(self):
        self.assertEqual(lenses(COMMON_PLACE), (((0, 1), (0, 2), -1, 0), ((0, 2), (0, 1), -1, 0)))
        # The common place is the greater one of both, and the greater one of one alone.
        both = (3, ((0, 2), (1, 2)), ((2,), (2,), (0, 1)), ((0,), (0,)), (((0, 2), (1, 2), 0),))
        self.assertEqual(lenses(both), (((0, 2), (1, 2), -1, 0), ((1, 2), (0, 2), -1, 0)))
        chain = (3, ((0, 1), (1, 2)), ((1,), (0, 2), (1,)), ((0,), (0,)), (((0, 1), (1, 2), 0),))
        self.assertEqual(lenses(chain), (((0, 1), (1, 2), -1, 0), ((1, 2), (0, 1), -1, 0)))

    def test_common_place_and_several_crossings(self):
        # Nearest to the common place 1 is the last crossing on (0, 1), and the first one on (1, 2).
        chain = (3, ((0, 1), (1, 2)), ((1,), (0, 2), (1,)), ((0, 1, 2), (1, 0, 2)),
                 (((0, 1), (1, 2), 0), ((0, 1), (1, 2), 1), ((0, 1), (1, 2), 0)))
        self.assertEqual(lenses(chain), (((0, 1), (1, 2), -1, 2), ((0, 1), (1, 2), 0, 1), ((0, 1), (1, 2), 1, 2),
                                         ((1, 2), (0, 1), -1, 1), ((1, 2), (0, 1), 0, 2), ((1, 2), (0, 1), 1, 0)))

    def test_none(self):
        for drawing in (ONE_PLACE, TEN_PLACES, ROUND_FOUR, flat((4, ((0, 1), (0, 2), (0, 3))))):
            self.assertEqual(lenses(drawing), ())

    def test_where_there_are_none_no_two_cross_again(self):
        for drawing in STANDING + CROSSED:
            self.assertEqual(bool(lenses(drawing)), crosses_again(drawing))


class Loosened(Checked):
    """Point 30."""

    def test_each_lens_by_walks(self):
        loops = 0
        for drawing in CROSSED:
            for lens in lenses(drawing):
                told = loosened(drawing, lens)
                walk = Loosening(drawing, lens)
                self.assertEqual(told, walk.drawn())
                self.check_drawing(told, drawing[:2])
                self.assertLess(count(told), count(drawing))
                loops += walk.loops > 0
        self.assertGreater(loops, 50)

    def test_great_ones(self):
        chance = random.Random(98)
        for bent in great_bent(2):
            drawing = told_otherwise(bent.drawing(), chance)
            for lens in chance.sample(lenses(drawing), 30):
                told = loosened(drawing, lens)
                self.assertEqual(told, Loosening(drawing, lens).drawn())
                self.check_drawing(told, drawing[:2])

    def test_other_ties_are_as_they_were(self):
        for drawing in CROSSED:
            for lens in lenses(drawing):
                told, ahead = loosened(drawing, lens), plain(drawing)
                others = [tie for tie in ahead[1] if tie not in lens[:2]]
                for one, other in itertools.combinations(others, 2):
                    self.assertEqual(count_of(told, one, other), count_of(ahead, one, other))
                for tie in others:
                    # No third tie has more crossings with the two together than ahead.
                    self.assertLessEqual(sum(count_of(told, tie, each) for each in lens[:2]),
                                         sum(count_of(ahead, tie, each) for each in lens[:2]))

    def test_two_crossings(self):
        bare = (4, ((0, 1), (2, 3)), ((1,), (0,), (3,), (2,)), ((), ()), ())
        for lens in lenses(TWICE):
            self.assertEqual(loosened(TWICE, lens), bare)

    def test_common_place(self):
        for drawing in (COMMON_PLACE, (3, ((0, 2), (1, 2)), ((2,), (2,), (0, 1)), ((0,), (0,)), (((0, 2), (1, 2), 0),))):
            for lens in lenses(drawing):
                self.assertEqual(loosened(drawing, lens), drawing[:3] + (((), ()), ()))

    def test_exchanged_in_the_ring(self):
        # Place 0 has the ties to 1, 2, 3 and 4 in this turn; those to 1 and 2 cross, the one to 3 is between them
        # nowhere. Loosened, 2 stands where 1 stood.
        star = (5, ((0, 1), (0, 2), (0, 3), (0, 4)), ((1, 2, 3, 4), (0,), (0,), (0,), (0,)), ((0,), (0,), (), ()),
                (((0, 1), (0, 2), 0),))
        self.assertIs(stands(star), True)
        for lens in lenses(star):
            self.assertEqual(loosened(star, lens)[2][0], (1, 3, 4, 2))

    def test_third_ties_are_handed_on(self):
        # The tie (4, 5) goes over (0, 1) between its two crossings with (2, 3), from its right to its left.
        drawing = (6, ((0, 1), (2, 3), (4, 5)), ((1,), (0,), (3,), (2,), (5,), (4,)), ((0, 2, 1), (0, 1), (2,)),
                   (((0, 1), (2, 3), 1), ((0, 1), (2, 3), 0), ((0, 1), (4, 5), 1)))
        self.assertIs(stands(drawing), True)
        for lens in lenses(drawing):
            self.assertEqual(loosened(drawing, lens)[3:], (((), (0,), (0,)), (((2, 3), (4, 5), 1),)))
        back = (6, ((0, 1), (2, 3), (4, 5)), ((1,), (0,), (3,), (2,), (5,), (4,)), ((0, 2, 1), (1, 0), (2,)),
                (((0, 1), (2, 3), 1), ((0, 1), (2, 3), 0), ((0, 1), (4, 5), 1)))
        self.assertIs(stands(back), True)
        for lens in lenses(back):
            self.assertEqual(loosened(back, lens)[3:], (((), (0,), (0,)), (((2, 3), (4, 5), 0),)))

    def test_no_lens(self):
        for drawing in (ONE_PLACE, TEN_PLACES, ROUND_FOUR, TWICE, COMMON_PLACE):
            for wrong in JUNK + (((0, 2), (1, 3), 0, 0), ((0, 2), (1, 3), -1, 0), ((0, 1), (2, 3), -1, 0),
                                 ((0, 1), (2, 3), 0, 2), ((0, 1), (2, 3), 1, 1), ((0, 1), (0, 1), 0, 1)):
                self.check_refused(drawing, wrong)

    def test_lenses_changed_at_one_spot(self):
        for drawing in CROSSED[:12] + [TWICE, COMMON_PLACE]:
            told = lenses(drawing)
            known = {repr_of(lens) for lens in told}
            for lens in told[:6]:
                for wrong in changed(lens, lambda spot: JUNK + (0, 1, 2, 3)):
                    if repr_of(wrong) not in known:
                        self.check_refused(drawing, wrong)

    def test_exchanged_cut_and_lengthened(self):
        for drawing in CROSSED:
            told = lenses(drawing)
            for one, other, first, second in told[:10]:
                for wrong in ((other, one, first, second), (one, other, second, first), (other, one, second, first)):
                    if wrong not in told:
                        self.check_refused(drawing, wrong)
                for wrong in ((one, other, first), (one, other, first, second, second), [one, other, first, second],
                              (one[::-1], other, first, second), (list(one), other, first, second),
                              (one, other, first, str(second)), (one, other, first, None), (one, other, -2, second),
                              (one, other, first, count(drawing))):
                    self.check_refused(drawing, wrong)

    def test_truths_for_numbers(self):
        self.check_refused(TWICE, ((0, 1), (2, 3), False, 1))
        self.check_refused(TWICE, ((0, 1), (2, 3), 0, True))
        self.check_refused(TWICE, ((0, True), (2, 3), 0, 1))
        self.check_refused(TWICE, ((False, 1), (2, 3), 0, 1))
        self.check_refused(COMMON_PLACE, ((0, 1), (0, 2), -1, False))

    def test_again(self):
        for drawing in CROSSED[:20]:
            for lens in lenses(drawing)[:3]:
                self.assertEqual(loosened(drawing, lens), loosened(drawing, lens))


class Tidied(Checked):
    """Point 31."""

    def check_tidied(self, drawing):
        told = tidied(drawing)
        self.check_drawing(told, drawing[:2])
        self.assertEqual(lenses_by_words(told), ())
        self.assertFalse(crosses_again(told))
        self.assertEqual(tidied(drawing), told)
        return told

    def test_any(self):
        for drawing in STANDING + CROSSED:
            told = self.check_tidied(drawing)
            self.assertEqual(tidied(told), told)
            if not lenses(drawing):
                self.assertEqual(told, plain(drawing))

    def test_comes_by_lenses_loosened(self):
        many = 0
        for drawing in CROSSED:
            if count(drawing) <= 6:
                reached = {plain(drawing)}
                ahead = [plain(drawing)]
                while ahead:
                    now = ahead.pop()
                    for lens in lenses(now):
                        then = loosened(now, lens)
                        if then not in reached:
                            reached.add(then)
                            ahead.append(then)
                self.assertIn(tidied(drawing), reached)
                many += 1
        self.assertGreater(many, 20)

    def test_ten_places_and_eighteen_ties_in_a_short_time(self):
        for bent in great_bent(5):
            start = time.monotonic()
            tidied(bent.drawing())
            self.assertLess(time.monotonic() - start, 3)
            self.check_tidied(bent.drawing())

    def test_tidy_ones(self):
        for drawing in (ONE_PLACE, TEN_PLACES, ROUND_FOUR):
            self.assertEqual(tidied(drawing), drawing)


class TheWhole(Checked):
    """Point 3: of whatever odd set an odd number of crossings is told."""

    def test_odd_sets(self):
        many = 0
        for drawing in CROSSED + [bent.drawing() for bent in great_bent(4)]:
            odd = odd_set(drawing[:2], ())
            if odd is not None:
                for told in (tidied(drawing), *(loosened(drawing, lens) for lens in lenses(drawing)[:6])):
                    self.assertEqual(len([each for each in told[4] if each[:2] in odd]) % 2, 1)
                    many += 1
        self.assertGreater(many, 20)


if __name__ == "__main__":
    unittest.main()
