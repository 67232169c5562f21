"""Texts: point 39, with point 2 where it is about them."""

import random
import re
import unittest

from leastcross.drawings import is_drawing, plain
from leastcross.errors import CrossError, NoText
from leastcross.faces import stands
from leastcross.texts import read, written
from samples import (COMMON_PLACE, FALLEN_FOUR, JUNK, ONE_PLACE, PLAIN_DRAWINGS, ROUND_FOUR, TEN_PLACES, THREE_TIES,
                     TWICE, is_of_wholes, repr_of, some_drawings, told_otherwise)
from standing import great_bent

ROUND_FOUR_TEXT = """places 4
ring 0: 1 2 3
ring 1: 0 2 3
ring 2: 0 1 3
ring 3: 0 1 2
way 0 2: 0
way 1 3: 0
cross 0: 0 2 1 3 left"""
TWICE_TEXT = """places 4
ring 0: 1
ring 1: 0
ring 2: 3
ring 3: 2
way 0 1: 0 1
way 2 3: 0 1
cross 0: 0 1 2 3 left
cross 1: 0 1 2 3 right"""
NUMBER = "(?:0|[1-9][0-9]{0,8})"
ROWS = (
    ("places", re.compile("places (%s)" % NUMBER)),
    ("ring", re.compile("ring (%s):((?: %s)+)" % (NUMBER, NUMBER))),
    ("way", re.compile("way (%s) (%s):((?: %s)+)" % (NUMBER, NUMBER, NUMBER))),
    ("cross", re.compile("cross (%s): (%s) (%s) (%s) (%s) (left|right)" % ((NUMBER,) * 5))),
)


def written_by_words(drawing):
    """Point 39, word by word."""
    n, ties, rings, ways, crossings = plain(drawing)
    text = "places " + str(n)
    for place in range(n):
        if rings[place]:
            text += "\nring " + str(place) + ":" + "".join(" " + str(other) for other in rings[place])
    for at, tie in enumerate(ties):
        if ways[at]:
            text += "\nway " + str(tie[0]) + " " + str(tie[1]) + ":" + "".join(" " + str(c) for c in ways[at])
    for c, (one, other, side) in enumerate(crossings):
        text += "\ncross {}: {} {} {} {} {}".format(c, *one, *other, {1: "left", 0: "right"}[side])
    return text


def read_by_words(text):
    """The drawing whose text this is, None where there is none: rows by patterns, in their order."""
    n, rings, ways, crossings, order = None, {}, {}, [], []
    for row in text.split("\n"):
        found = [(at, name, pattern.fullmatch(row)) for at, (name, pattern) in enumerate(ROWS) if pattern.fullmatch(row)]
        if not found:
            return None
        at, name, match = found[0]
        order.append(at)
        if name == "places":
            n = int(match[1])
        elif name == "ring":
            if int(match[1]) in rings or any(int(match[1]) < each for each in rings):
                return None
            rings[int(match[1])] = tuple(map(int, match[2].split()))
        elif name == "way":
            tie = (int(match[1]), int(match[2]))
            if any(tie <= each for each in ways):
                return None
            ways[tie] = tuple(map(int, match[3].split()))
        else:
            if int(match[1]) != len(crossings):
                return None
            i, j, k, m = (int(match[each]) for each in range(2, 6))
            crossings.append(((i, j), (k, m), 1 if match[6] == "left" else 0))
    if order[0] != 0 or order.count(0) != 1 or order != sorted(order) or not 1 <= n <= 10:
        return None
    ties = tuple(sorted({tuple(sorted((i, j))) for i in rings for j in rings[i]}))
    if any(place >= n for place in rings) or any(tie not in ties for tie in ways):
        return None
    drawing = (n, ties, tuple(rings.get(place, ()) for place in range(n)), tuple(ways.get(tie, ()) for tie in ties),
               tuple(crossings))
    return drawing if is_drawing(drawing) and plain(drawing) == drawing else None


class Checked(unittest.TestCase):
    def check_refused(self, thing):
        with self.assertRaises(CrossError) as caught:
            read(thing)
        self.assertIs(type(caught.exception), NoText)
        self.assertIsInstance(caught.exception, ValueError)

    def check_text(self, text):
        """What is read is what the words tell: a drawing or nothing."""
        due = read_by_words(text)
        if due is None:
            self.check_refused(text)
        else:
            self.assertEqual(read(text), due)
        return due is not None


class Written(Checked):
    def test_word_by_word(self):
        for drawing in some_drawings(200) + [bent.drawing() for bent in great_bent(1)]:
            text = written(drawing)
            self.assertIs(type(text), str)
            self.assertEqual(text, written_by_words(drawing))
            self.assertEqual(written(drawing), text)

    def test_known_ones(self):
        self.assertEqual(written(ONE_PLACE), "places 1")
        self.assertEqual(written(TEN_PLACES), "places 10")
        self.assertEqual(written(ROUND_FOUR), ROUND_FOUR_TEXT)
        self.assertEqual(written(FALLEN_FOUR), ROUND_FOUR_TEXT.replace("left", "right"))
        self.assertEqual(written(TWICE), TWICE_TEXT)
        self.assertEqual(written(COMMON_PLACE),
                         "places 3\nring 0: 1 2\nring 1: 0\nring 2: 0\nway 0 1: 0\nway 0 2: 0\ncross 0: 0 1 0 2 right")
        # Places without ties and ties without crossings have no rows.
        self.assertEqual(written((5, ((1, 3),), ((), (3,), (), (1,), ()), ((),), ())), "places 5\nring 1: 3\nring 3: 1")

    def test_of_the_plain_drawing(self):
        chance = random.Random(141)
        for drawing in PLAIN_DRAWINGS:
            for each in range(5):
                self.assertEqual(written(told_otherwise(drawing, chance)), written(drawing))


class Read(Checked):
    def test_what_is_written(self):
        fallen = 0
        for drawing in some_drawings(300) + [bent.drawing() for bent in great_bent(1)]:
            told = read(written(drawing))
            self.assertEqual(told, plain(drawing))
            self.assertTrue(is_of_wholes(told))
            fallen += not stands(drawing)
        self.assertGreater(fallen, 50)

    def test_written_and_read_again(self):
        for text in (ROUND_FOUR_TEXT, TWICE_TEXT, "places 1", "places 10", written(THREE_TIES)):
            self.assertEqual(written(read(text)), text)
            self.assertEqual(read(text), read(text))

    def test_no_text_at_all(self):
        for wrong in JUNK + ([], ["places 1"], ("places 1",), b"places 1", 1, None, ROUND_FOUR):
            if not isinstance(wrong, str) or read_by_words(wrong) is None:
                self.check_refused(wrong)

    def test_numbers_of_places(self):
        for word in ("0", "11", "01", "+1", "-1", "1.", "", " 1", "1 ", "10 ", "a", "1a", "1 1", "999999999", "1000000000",
                     "0000000001", "1_0", "\t1", "100", "\u0661", "\u00b2", "0x1", "1:"):
            self.check_refused("places " + word)
        for word in ("place 1", "Places 1", "PLACES 1", "places", "places1", "places  1", "places\t1", " places 1",
                     "places: 1", "1", ""):
            self.check_refused(word)
        for n in range(1, 11):
            self.assertEqual(read("places " + str(n)), (n, (), ((),) * n, (), ()))

    def test_line_ends(self):
        for text in (ROUND_FOUR_TEXT, "places 1"):
            for wrong in (text + "\n", "\n" + text, text.replace("\n", "\n\n", 1) + "\n\n", text + "\r", text + " \n"):
                self.check_refused(wrong)
        self.check_refused(ROUND_FOUR_TEXT.replace("\n", "\n\n", 1))
        self.check_refused(ROUND_FOUR_TEXT.replace("\n", "\r\n"))
        self.check_refused(ROUND_FOUR_TEXT.replace("\n", " ; "))
        self.check_refused(ROUND_FOUR_TEXT.replace("\n", " "))

    def test_rows_missing_twice_and_in_another_order(self):
        for text in (ROUND_FOUR_TEXT, TWICE_TEXT):
            rows = text.split("\n")
            for at, row in enumerate(rows):
                self.check_refused("\n".join(rows[:at] + rows[at + 1:]))
                self.check_refused("\n".join(rows[:at] + [row] + rows[at:]))
                self.check_refused("\n".join(rows + [row]))
                for other in range(len(rows)):
                    if other != at:
                        moved = list(rows)
                        moved[at], moved[other] = moved[other], moved[at]
                        self.check_refused("\n".join(moved))
            self.check_refused("\n".join(rows[::-1]))

    def test_rings_and_ways_without_anything(self):
        self.check_refused("places 1\nring 0:")
        self.check_refused("places 1\nring 0: ")
        self.check_refused("places 2\nring 0: 1\nring 1: 0\nway 0 1:")
        self.check_refused("places 2\nring 0: 1\nring 1: 0\nway 0 1: ")
        self.check_refused("places 2\nring 0: 1")
        self.check_refused("places 2\nring 0: 1\nring 1: 0 0")
        self.check_refused("places 2\nring 0: 0\nring 1: 1")
        self.check_refused("places 2\nring 0: 1\nring 1: 0\nring 2: 0")
        self.check_refused("places 2\nring 0: 2\nring 2: 0")
        self.check_refused("places 2\nway 0 1: 0")
        self.check_refused("places 3\nring 0: 1\nring 1: 0\ncross 0: 0 1 0 2 left")
        self.assertEqual(read("places 2\nring 0: 1\nring 1: 0"), (2, ((0, 1),), ((1,), (0,)), ((),), ()))

    def test_what_is_not_plain(self):
        self.check_refused(ROUND_FOUR_TEXT.replace("ring 0: 1 2 3", "ring 0: 2 3 1"))
        self.assertEqual(read(ROUND_FOUR_TEXT.replace("ring 0: 1 2 3", "ring 0: 1 3 2"))[2][0], (1, 3, 2))
        numbered = TWICE_TEXT.replace("way 0 1: 0 1", "way 0 1: 1 0").replace("way 2 3: 0 1", "way 2 3: 1 0")
        self.check_refused(numbered)
        self.assertEqual(read(TWICE_TEXT.replace("way 2 3: 0 1", "way 2 3: 1 0"))[3], ((0, 1), (1, 0)))
        self.check_refused(TWICE_TEXT.replace("way 0 1: 0 1", "way 0 1: 1 0"))

    def test_ties_told_the_other_way_round(self):
        self.check_refused(ROUND_FOUR_TEXT.replace("way 0 2", "way 2 0"))
        self.check_refused(ROUND_FOUR_TEXT.replace("0 2 1 3 left", "2 0 1 3 left"))
        self.check_refused(ROUND_FOUR_TEXT.replace("0 2 1 3 left", "1 3 0 2 left"))
        self.check_refused(ROUND_FOUR_TEXT.replace("0 2 1 3 left", "1 3 0 2 right"))
        self.check_refused(ROUND_FOUR_TEXT.replace("0 2 1 3 left", "0 2 0 2 left"))

    def test_sides(self):
        self.assertEqual(read(ROUND_FOUR_TEXT.replace("left", "right")), FALLEN_FOUR)
        for wrong in ("Left", "1", "0", "up", "", "left ", " left", "left left", "left 0", "lefts", "left:"):
            self.check_refused(ROUND_FOUR_TEXT.replace("left", wrong))
        self.check_refused(ROUND_FOUR_TEXT.replace("ring 0: 1 2 3", "ring 0: left 2 3"))
        self.check_refused(ROUND_FOUR_TEXT.replace("ring 0", "ring right"))
        self.check_refused(ROUND_FOUR_TEXT.replace("cross 0", "cross right"))

    def test_figures(self):
        for old, new in (("ring 0", "ring 00"), ("1 2 3", "01 2 3"), ("1 2 3", "1 2 03"), ("way 0 2", "way 00 2"),
                         ("cross 0:", "cross 00:"), ("way 0 2: 0", "way 0 2: 00"), ("1 2 3", "1 2 0000000003"),
                         ("1 2 3", "1 2 1000000000"), ("1 2 3", "+1 2 3"), ("1 2 3", "1 2 -3"), ("1 2 3", "1  2 3"),
                         ("1 2 3", "1\t2 3"), ("1 2 3", "1 2 3 "), ("ring 0: 1", "ring 0:  1"),
                         ("ring 0: 1", "ring 0:1"), ("ring 0: 1", "ring 0 : 1"), ("ring 0: 1", "ring 0 1"),
                         ("ring 0", "ring: 0"), ("ring 0", "rin:g 0"), ("ring 0", "ring 0 0"), ("cross 0", "cross 1"),
                         ("cross 0", "cross  0"), ("cross 0:", "cross 0"), ("way 0 2: 0", "way 0 2 0"),
                         ("way 0 2: 0", "way 0 2: 0:"), ("1 2 3", "1, 2, 3"), ("1 2 3", "1 2 3.")):
            self.assertIn(old, ROUND_FOUR_TEXT)
            self.check_refused(ROUND_FOUR_TEXT.replace(old, new, 1))

    def test_each_sign_changed(self):
        for text in (ROUND_FOUR_TEXT, TWICE_TEXT, written(COMMON_PLACE), "places 10"):
            kept = 0
            for at in range(len(text) + 1):
                for sign in "0123 \n\t:;-+la":
                    kept += self.check_text(text[:at] + sign + text[at:])
                    if at < len(text):
                        kept += self.check_text(text[:at] + sign + text[at + 1:])
                if at < len(text):
                    kept += self.check_text(text[:at] + text[at + 1:])
            self.assertGreater(kept, 0)

    def test_words_changed(self):
        chance = random.Random(142)
        kept = 0
        for drawing in some_drawings(60):
            text = written(drawing)
            words = re.findall("[^ \n]+|[ \n]", text)
            for each in range(30):
                some = list(words)
                for change in range(chance.randint(1, 2)):
                    at, to = chance.randrange(len(some)), chance.randrange(len(some))
                    some[at] = some[to]
                kept += self.check_text("".join(some))
        self.assertGreater(kept, 30)

    def test_nothing_is_changed_by_what_is_refused(self):
        handed = ("places 1", ["places 1"])
        ahead = repr_of(handed)
        self.check_refused(handed)
        self.assertEqual(repr_of(handed), ahead)


if __name__ == "__main__":
    unittest.main()
