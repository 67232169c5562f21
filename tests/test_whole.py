"""The whole program: points 1, 2 and 3, and the interface."""

import importlib
import inspect
import itertools
import pathlib
import random
import subprocess
import sys
import unittest

from leastcross.desk import Desk
from leastcross.drawings import count, is_drawing, mirrored, plain
from leastcross.errors import CrossError
from leastcross.faces import stands
from leastcross.flat import flat
from leastcross.least import least
from leastcross.lenses import lenses, loosened, tidied
from leastcross.must import must
from leastcross.odd import is_odd_set, odd_set
from leastcross.orders import least_lower, middle, settled_rows, table_shows
from leastcross.papers import paper, shown
from leastcross.routes import best, led, levels_show, put, settled, without
from leastcross.rows import crossed, number_of, row_drawing, two
from leastcross.straight import straight
from leastcross.texts import read, written
from leastcross.webs import pairs, web
from samples import FOUR_TIED, JUNK, ROUND_FOUR, SIX_TIED, TWICE, all_ties, any_points, any_web, is_of_wholes, repr_of
from standing import crosses_again, free_ties, great_bent, some_standing, wandered
from tworows import any_order, any_two

ROOT = pathlib.Path(__file__).resolve().parent.parent
INTERFACE = {
    "webs": "web(n, some) parts(web) pairs(web) by_turns(one, other)",
    "drawings": "is_drawing(thing) plain(thing) count(drawing) count_of(drawing, one, other) mirrored(drawing)",
    "faces": "across(drawing, step) behind(drawing, step) faces(drawing) stands(drawing)",
    "straight": "straight(web, points)",
    "odd": "turned(web, turns) is_odd_set(web, some) odd_set(web, met)",
    "flat": "flat(web)",
    "must": "must(web)",
    "papers": "paper(web) shown(web, paper, number)",
    "routes": "put(drawing, tie, route) without(drawing, tie) best(drawing, tie)"
              " levels_show(drawing, tie, number, levels) led(drawing, tie) settled(drawing)",
    "lenses": "lenses(drawing) loosened(drawing, lens) tidied(drawing)",
    "least": "least(web)",
    "rows": "two(p, q, some) crossed(two, upper, lower) number_of(two, upper, b, d) row_drawing(two, upper, lower)",
    "orders": "least_lower(two, upper) table_shows(two, upper, number, table) middle(two, upper) settled_rows(two, upper)",
    "texts": "written(drawing) read(text)",
}


def odd_many(drawing, odd):
    return len([crossing for crossing in drawing[4] if crossing[:2] in odd]) % 2 == 1


def any_straight(chance, some):
    """A drawing of a web by straight ties, tried until the points fit."""
    while True:
        try:
            return straight(some, any_points(chance, some[0]))
        except CrossError:
            continue


class Interface(unittest.TestCase):
    def test_functions(self):
        for module, told in INTERFACE.items():
            found = importlib.import_module("leastcross." + module)
            for one in told.replace(") ", ")\n").split("\n"):
                name = one.split("(")[0]
                self.assertEqual(name + str(inspect.signature(getattr(found, name))), one)
                self.assertEqual(getattr(found, name).__module__, "leastcross." + module)

    def test_desk(self):
        self.assertIn("say", vars(Desk))
        self.assertEqual(str(inspect.signature(Desk)), "()")
        self.assertEqual(list(inspect.signature(Desk.say).parameters), ["self", "row"])

    def test_each_module_alone(self):
        for module in list(INTERFACE) + ["errors", "desk", "kinds"]:
            done = subprocess.run([sys.executable, "-W", "error", "-c", "import leastcross." + module], cwd=ROOT)
            self.assertEqual(done.returncode, 0, module)


class FlatOrOdd(unittest.TestCase):
    """Each web has a drawing without crossings or an odd set, never both; least and the desk tell the same."""

    def test_all_of_them_agree(self):
        chance = random.Random(161)
        told = {True: 0, False: 0}
        for each in range(200):
            some = (6, tuple(sorted(chance.sample(all_ties(6), chance.randint(5, 15)))))
            number = must(some)[0]
            is_flat = flat(some) is not None
            told[is_flat] += 1
            self.assertEqual(is_flat, odd_set(some, ()) is None)
            self.assertEqual(is_flat, number == 0)
            self.assertEqual(is_flat, count(least(some)) == 0)
            self.assertEqual(is_flat, paper(some) is None)
            self.assertIs(is_flat or shown(some, paper(some), number), True)
            desk = Desk()
            desk.say("web 6")
            for i, j in some[1]:
                desk.say(f"tie {i} {j}")
            self.assertEqual([desk.say(row) for row in ("flat", "must", "least", "crossings")],
                             ["yes" if is_flat else "no"] + [str(number)] * 3)
        self.assertGreater(min(told.values()), 50)

    def test_webs_with_more_places(self):
        chance = random.Random(162)
        for each in range(60):
            some = (10, tuple(sorted(chance.sample(all_ties(10), 18))))
            drawn, odd = flat(some), odd_set(some, ())
            self.assertEqual(drawn is None, odd is not None)
            if drawn is not None:
                self.assertEqual((count(drawn), lenses(drawn), settled(drawn), tidied(drawn)), (0, (), drawn, drawn))
                self.assertIs(stands(read(written(drawn))), True)
            else:
                self.assertIs(is_odd_set(some, odd), True)


class DrawingsThatStand(unittest.TestCase):
    """What comes of a drawing that stands, by whatever means, stands, and has an odd number of each odd set."""

    def check_all(self, drawing, chance):
        odd = odd_set(drawing[:2], ())
        least_many = must(drawing[:2])[0] if drawing[0] <= 6 else 0 if odd is None else 1
        made = [plain(drawing), mirrored(drawing), settled(drawing), tidied(drawing), read(written(drawing))]
        made += [led(drawing, tie) for tie in drawing[1][:4]]
        found = lenses(drawing)
        made += [loosened(drawing, lens) for lens in chance.sample(found, min(4, len(found)))]
        for told in made:
            self.assertIs(is_drawing(told), True)
            self.assertTrue(is_of_wholes(told))
            self.assertEqual(plain(told), told)
            self.assertEqual(told[:2], drawing[:2])
            self.assertIs(stands(told), True)
            self.assertGreaterEqual(count(told), least_many)
            if odd is not None:
                self.assertTrue(odd_many(told, odd))
        return odd is not None

    def test_straight_ones(self):
        chance = random.Random(163)
        self.assertGreater(sum([self.check_all(any_straight(chance, any_web(chance)), chance) for each in range(80)]), 5)
        for some in (SIX_TIED, FOUR_TIED, (6, all_ties(6)[3:])):
            self.check_all(any_straight(chance, some), chance)

    def test_bent_and_wandered_ones(self):
        chance = random.Random(164)
        many = 0
        for drawing in some_standing(15) + [bent.drawing() for bent in great_bent(2)]:
            many += self.check_all(drawing, chance)
        for each in range(10):
            many += self.check_all(wandered(chance, 6, chance.randint(13, 15), 5), chance)
        self.assertGreater(many, 10)

    def test_two_rows(self):
        chance = random.Random(165)
        many = 0
        for each in range(90):
            p = chance.randint(1 + each % 3, 6)
            q = chance.randint(1 + each % 3, min(7, 10 - p))
            rows = any_two(chance, p, q)
            upper, lower = any_order(chance, p), any_order(chance, q)
            drawing = row_drawing(rows, upper, lower)
            many += self.check_all(drawing, chance)
            self.assertFalse(crosses_again(drawing))
            desk = Desk()
            self.assertEqual(desk.say("read " + written(drawing).replace("\n", " ; ")), "ok")
            self.assertEqual(desk.say("crossings"), str(crossed(rows, upper, lower)))
            self.assertLessEqual(int(desk.say("settle")), crossed(rows, upper, lower))
            if p + q <= 6:
                self.assertGreaterEqual(crossed(rows, *settled_rows(rows, upper)), must(drawing[:2])[0])
        self.assertGreater(many, 8)

    def test_least_ones(self):
        chance = random.Random(166)
        for each in range(40):
            self.check_all(least(any_web(chance, 6, 15)), chance)

    def test_routes_have_no_fewer_steps(self):
        chance = random.Random(167)
        for each in range(40):
            drawing = any_straight(chance, any_web(chance, 8, 12))
            for tie in free_ties(drawing)[:5]:
                route, levels = best(drawing, tie)
                self.assertIs(levels_show(drawing, tie, len(route[1]), levels), True)
                self.assertIs(levels_show(drawing, tie, len(route[1]) + 1, levels), False)
                self.assertEqual(without(put(drawing, tie, route), tie), plain(drawing))


class TwoRows(unittest.TestCase):
    def test_no_order_has_fewer_crossings(self):
        chance = random.Random(168)
        for each in range(60):
            rows = any_two(chance, chance.randint(1, 7), chance.randint(1, 5))
            upper = any_order(chance, rows[0])
            number, lower, table = least_lower(rows, upper)
            self.assertIs(table_shows(rows, upper, number, table), True)
            lesser = sum(min(number_of(rows, upper, b, d), number_of(rows, upper, d, b))
                         for b, d in itertools.combinations(range(rows[1]), 2))
            self.assertLessEqual(lesser, number)
            self.assertLessEqual(number, crossed(rows, upper, middle(rows, upper)))
            self.assertLessEqual(crossed(rows, upper, middle(rows, upper)), 3 * lesser)
            self.assertLessEqual(crossed(rows, *settled_rows(rows, upper)), number)


class Refusals(unittest.TestCase):
    """Each refusal is of its class, under CrossError and ValueError alone; what is handed in is never changed."""

    def test_each_of_its_class(self):
        rest = without(ROUND_FOUR, (1, 3))
        rows = (3, 2, ((0, 0),))
        calls = (
            ("NoWeb", web, 3), ("NoWeb", two, 3, 3),
            ("NoDrawing", plain),
            ("NoTie", without, ROUND_FOUR), ("NoTie", led, ROUND_FOUR), ("NoTie", best, ROUND_FOUR),
            ("NoRoute", put, rest, (1, 3)),
            ("NoLens", loosened, TWICE),
            ("NoOrder", crossed, rows, (0, 1, 2)), ("NoOrder", row_drawing, rows, (0, 1, 2)),
            ("NoOrder", least_lower, (7, 2, ())), ("NoOrder", middle, (7, 2, ())), ("NoOrder", settled_rows, (7, 2, ())),
            ("NoText", read),
        )
        for name, call, *ahead in calls:
            for thing in JUNK + ([], [0, 1], {}, {"a": (0, 1)}, [[], [(0, 1)]]):
                if (call in (web, two) and thing == ()) or (call in (without, led) and thing == (0, 1)) \
                        or (call == crossed and thing == (0, 1)) or (call == row_drawing and thing == (0, 1)) \
                        or (call == web and thing == ((0, 1),)):
                    continue
                told = repr_of(thing)
                with self.assertRaises(ValueError) as caught:
                    call(*ahead, thing)
                self.assertEqual(type(caught.exception).__name__, name, (call, told[:80]))
                self.assertEqual(type(caught.exception).__mro__[1:3], (CrossError, ValueError))
                self.assertEqual(repr_of(thing), told)

    def test_too_many(self):
        for call in (must, paper, least):
            with self.assertRaises(ValueError) as caught:
                call((7, ()))
            self.assertEqual(type(caught.exception).__name__, "TooMany")
        with self.assertRaises(ValueError) as caught:
            row_drawing((7, 4, ()), tuple(range(7)), tuple(range(4)))
        self.assertEqual(type(caught.exception).__name__, "TooMany")

    def test_what_is_refused_changes_nothing(self):
        """Behind refusals all is told as it was told ahead of them."""
        ahead = self.all_told()
        for call in (plain, read, lambda thing: web(3, thing), lambda thing: put(ROUND_FOUR, thing, thing)):
            for thing in JUNK[:4]:
                with self.assertRaises(CrossError):
                    call(thing)
        self.assertEqual(self.all_told(), ahead)

    def all_told(self):
        return (settled(TWICE), tidied(TWICE), least(SIX_TIED), best(TWICE, (0, 2)), pairs(SIX_TIED), written(TWICE),
                Desk().say("show"), least_lower((3, 2, ((0, 1), (1, 0))), (2, 1, 0)))


if __name__ == "__main__":
    unittest.main()
