"""The desk: point 40, with points 2 and 3 where they are about it."""

import random
import unittest

from leastcross.desk import Desk
from leastcross.drawings import count, count_of, plain
from leastcross.faces import faces, stands
from leastcross.flat import flat
from leastcross.lenses import lenses
from leastcross.must import must
from leastcross.odd import odd_set
from leastcross.routes import best, led, without
from leastcross.texts import read, written
from samples import (COMMON_PLACE, EIGHTEEN, FALLEN_FOUR, FIVE_TIED, JUNK, ONE_PLACE, ROUND_FOUR, SIX_TIED, TEN_PLACES,
                     THREE_TO_THREE, TWICE, all_ties)
from standing import crosses_again, crossings_on, free_ties, great_bent, some_wandered

CHANGING = ("web", "read", "tie", "drop", "lead", "loosen", "settle", "least")


def in_one_row(drawing):
    return written(drawing).replace("\n", " ; ")


def shown(desk):
    """The drawing that a desk has."""
    return read(desk.say("show").replace(" ; ", "\n"))


def desk_with(drawing):
    desk = Desk()
    assert desk.say("read " + in_one_row(drawing)) == "ok"
    return desk


def full_desk():
    """A desk with eighteen ties of eight places."""
    desk = Desk()
    desk.say("web 8")
    for i, j in EIGHTEEN:
        desk.say(f"tie {i} {j}")
    return desk


class Checked(unittest.TestCase):
    def check_answers(self, desk, *rows):
        """Rows and their answers, by turns."""
        for row, answer in zip(rows[::2], rows[1::2]):
            told = desk.say(row)
            self.assertIs(type(told), str)
            self.assertEqual(told, answer, row)

    def check_unchanged(self, desk, row, answer):
        """The row is answered so, and changes nothing, neither the drawing nor what back takes back."""
        now = desk.say("show")
        desk.say("back")
        earlier = desk.say("show")
        self.check_answers(desk, "read " + now, "ok", row, answer, "show", now, "back", "ok", "show", earlier,
                           "read " + now, "ok")


class Web(Checked):
    def test_at_first(self):
        desk = Desk()
        self.check_answers(desk, "show", "places 1", "crossings", "0", "faces", "1", "must", "0", "flat", "yes",
                           "back", "nothing")

    def test_places(self):
        desk = Desk()
        for n in range(1, 11):
            self.check_answers(desk, f"web {n}", "ok", "show", f"places {n}", "faces", str(n))

    def test_no_web(self):
        for n in (0, 11, 12, 100, 999999999):
            self.check_unchanged(desk_with(ROUND_FOUR), f"web {n}", "no web")

    def test_not_known(self):
        for row in ("web", "web ", "web  3", "web 3 ", " web 3", "web 03", "web 00", "web 0000000001", "web 1000000000",
                    "web +3", "web -3", "web 3.", "web x", "web 3 3", "Web 3", "WEB 3", "web\t3", "web 3\n", "web,3",
                    "web three", "web 1_0", "\nweb 3", "web \u0663", "webs 3"):
            self.check_unchanged(desk_with(ROUND_FOUR), row, "not known")


class Read(Checked):
    def test_drawings(self):
        for drawing in [ONE_PLACE, TEN_PLACES, ROUND_FOUR, TWICE, COMMON_PLACE] + some_wandered(10):
            desk = Desk()
            self.check_answers(desk, "read " + in_one_row(drawing), "ok", "show", in_one_row(drawing))
            self.assertEqual(shown(desk), plain(drawing))

    def test_no_drawing(self):
        text = in_one_row(ROUND_FOUR)
        for wrong in (in_one_row(FALLEN_FOUR), "", " ", "places", "places 0", "places 11", "places 01", " places 1",
                      "places 1 ", "places 1 ; ", " ; places 1", "places 1\n", "places 1;", written(ROUND_FOUR),
                      text.replace(" ; ", ";"), text.replace(" ; ", "; "), text.replace(" ; ", "  ; "),
                      text.replace(" ; ", " ; ; ", 1), text.replace(" ; ", "\n", 1), text + "\n", text + " ",
                      text.replace("1 2 3", "2 3 1", 1), text.replace("left", "up"), text[:-1], "TEXT", "5", "show",
                      "places\t1", "places 1\t", "\n", "places 2 ; ring 0: 1"):
            self.check_unchanged(desk_with(TWICE), "read " + wrong, "no drawing")

    def test_no_blank_behind_it(self):
        for row in ("read", "Read places 1", "READ places 1", "read\tplaces 1", "read\n", "read:places 1", "readplaces 1",
                    " read places 1"):
            self.check_unchanged(desk_with(TWICE), row, "not known")

    def test_what_is_shown_is_read(self):
        desk = full_desk()
        text = desk.say("show")
        self.check_answers(desk, "web 3", "ok", "read " + text, "ok", "show", text)


class Ties(Checked):
    def test_put_in(self):
        desk = Desk()
        self.check_answers(desk, "web 4", "ok", "tie 0 1", "0", "tie 3 2", "0", "show",
                           "places 4 ; ring 0: 1 ; ring 1: 0 ; ring 2: 3 ; ring 3: 2")

    def test_by_a_best_route(self):
        for drawing in some_wandered(15, 8, 12, 6, 151):
            for tie in free_ties(drawing)[:6]:
                desk = desk_with(drawing)
                many = len(best(drawing, tie)[0][1])
                self.check_answers(desk, "tie {} {}".format(*tie), str(many))
                told = shown(desk)
                self.assertEqual(crossings_on(told, tie), many)
                self.assertEqual(without(told, tie), plain(drawing))
                self.assertIs(stands(told), True)

    def test_told_either_way_round(self):
        for drawing in some_wandered(8, 7, 9, 6, 152):
            for i, j in free_ties(drawing)[:4]:
                one, other = desk_with(drawing), desk_with(drawing)
                self.assertEqual(one.say(f"tie {i} {j}"), other.say(f"tie {j} {i}"))
                self.assertEqual(one.say("show"), other.say("show"))
            for i, j in drawing[1]:
                for word in ("drop", "lead"):
                    one, other = desk_with(drawing), desk_with(drawing)
                    self.assertEqual(one.say(f"{word} {i} {j}"), other.say(f"{word} {j} {i}"))
                    self.assertEqual(one.say("show"), other.say("show"))

    def test_no_tie(self):
        for row in ("tie 0 1", "tie 1 0", "tie 0 0", "tie 3 3", "tie 0 4", "tie 4 0", "tie 9 9", "tie 999999999 0",
                    "drop 0 2", "drop 2 0", "drop 0 0", "drop 0 4", "drop 7 8", "drop 2 2",
                    "lead 0 2", "lead 2 0", "lead 1 1", "lead 0 4", "lead 0 999999999"):
            self.check_unchanged(desk_with(TWICE), row, "no tie")

    def test_a_nineteenth_tie(self):
        desk = full_desk()
        self.assertEqual(len(shown(desk)[1]), 18)
        for i, j in free_ties(shown(desk)):
            self.check_unchanged(desk, f"tie {i} {j}", "no tie")
        self.check_answers(desk, "drop 0 1", "ok", "tie 6 7", "0")

    def test_taken_out(self):
        for drawing in some_wandered(10, 8, 12, 6, 153):
            for tie in drawing[1]:
                desk = desk_with(drawing)
                self.check_answers(desk, "drop {} {}".format(*tie), "ok", "show", in_one_row(without(drawing, tie)))

    def test_led_anew(self):
        for drawing in some_wandered(10, 8, 12, 6, 154):
            for tie in drawing[1]:
                desk = desk_with(drawing)
                answer = desk.say("lead {} {}".format(*tie))
                told = shown(desk)
                self.assertEqual(answer, str(crossings_on(told, tie)))
                self.assertEqual(answer, str(crossings_on(led(drawing, tie), tie)))
                self.assertEqual(without(told, tie), without(drawing, tie))

    def test_led_anew_with_eighteen_ties(self):
        for bent in great_bent(1):
            desk = desk_with(bent.drawing())
            for i, j in bent.ties:
                self.assertRegex(desk.say(f"lead {j} {i}"), "^[0-9]+$")
            self.assertIs(stands(shown(desk)), True)

    def test_not_known(self):
        for word in ("tie", "drop", "lead"):
            for rest in ("", " ", " 0", " 0 ", " 0 1 2", " 0 1 ", "  0 1", " 0  1", " 00 1", " 0 01", " 0,1", " (0, 1)",
                         " -0 1", " 0 -1", " +0 1", " a b", " 0 1000000000", "\t0 1", " 0\t1", " 0 1\n"):
                self.check_unchanged(desk_with(TWICE), word + rest, "not known")
            self.check_unchanged(desk_with(TWICE), word.upper() + " 0 1", "not known")
            self.check_unchanged(desk_with(TWICE), word.title() + " 0 1", "not known")


class Loosened(Checked):
    def test_loosen_and_settle(self):
        for drawing in some_wandered(20, 8, 14, 8, 155) + [bent.drawing() for bent in great_bent(1)]:
            for word in ("loosen", "settle"):
                desk = desk_with(drawing)
                answer = desk.say(word)
                told = shown(desk)
                self.assertEqual(answer, str(count(told)))
                self.assertEqual(told[:2], drawing[:2])
                self.assertIs(stands(told), True)
                self.assertFalse(crosses_again(told))
                self.assertEqual(lenses(told), ())
                if word == "settle":
                    for tie in told[1]:
                        rest = without(told, tie)
                        self.assertEqual(crossings_on(told, tie), len(best(rest, tie)[0][1]))

    def test_known_ones(self):
        for drawing, number in ((TWICE, "0"), (COMMON_PLACE, "0"), (ONE_PLACE, "0")):
            for word in ("loosen", "settle", "least"):
                self.check_answers(desk_with(drawing), word, number, "crossings", number)
        self.check_answers(desk_with(ROUND_FOUR), "loosen", "1", "show", in_one_row(ROUND_FOUR), "settle", "0")

    def test_least(self):
        for web, number in ((SIX_TIED, 3), (FIVE_TIED, 1), (THREE_TO_THREE, 1), ((6, all_ties(6)[2:]), None)):
            desk = Desk()
            desk.say(f"web {web[0]}")
            for i, j in web[1]:
                desk.say(f"tie {i} {j}")
            number = must(web)[0] if number is None else number
            self.check_answers(desk, "must", str(number), "least", str(number), "crossings", str(number), "flat", "no")
            self.assertEqual(shown(desk)[:2], web)
            self.assertIs(stands(shown(desk)), True)

    def test_too_many(self):
        for n in (7, 8, 9, 10):
            for word in ("least", "must"):
                desk = Desk()
                self.check_answers(desk, f"web {n}", "ok", "tie 0 1", "0")
                self.check_unchanged(desk, word, "too many")
        for word in ("least", "must"):
            self.check_unchanged(full_desk(), word, "too many")
            self.check_unchanged(Desk(), word + " 1", "not known")


class Asked(Checked):
    def test_answers(self):
        for drawing in some_wandered(20, 8, 14, 6, 156) + [ROUND_FOUR, TWICE, COMMON_PLACE, TEN_PLACES]:
            desk = desk_with(drawing)
            lone = len([ring for ring in drawing[2] if not ring])
            self.check_answers(desk, "crossings", str(count(drawing)), "faces", str(len(faces(drawing)) + lone),
                               "flat", "yes" if odd_set(drawing[:2], ()) is None else "no",
                               "must", str(must(drawing[:2])[0]) if drawing[0] <= 6 else "too many",
                               "show", in_one_row(drawing))
            for one in drawing[1][:6]:
                for other in drawing[1][:6]:
                    if one != other:
                        number = str(count_of(drawing, one, other))
                        for first in (one, one[::-1]):
                            for second in (other, other[::-1]):
                                self.check_answers(desk, "crossings {} {} {} {}".format(*first, *second), number)
            self.assertEqual(desk.say("show"), in_one_row(drawing))

    def test_crossings_of_what_are_not_two_ties(self):
        for rest in ("0 1 0 1", "0 1 1 0", "1 0 0 1", "2 3 3 2", "0 1 0 2", "0 2 0 1", "0 0 2 3", "0 1 2 2", "0 1 2 9",
                     "0 4 0 1", "8 9 7 6", "0 1 999999999 3"):
            self.check_unchanged(desk_with(TWICE), "crossings " + rest, "no tie")
        self.check_answers(desk_with(TWICE), "crossings 0 1 2 3", "2", "crossings 3 2 1 0", "2")

    def test_not_known(self):
        for word in ("crossings", "faces", "must", "flat", "show", "loosen", "settle", "least", "back"):
            for row in (word + " ", " " + word, word.upper(), word.title(), word + " 0", word + " 0 1", word + " 0 1 2",
                        word + " 0 1 2 3 4", word + " now", word + "\n", word + ".", word[:-1], word + " 0 1 2 x",
                        word + " 0 1  2 3", word + " 0 1 2 03", word + "  0 1 2 3", word + " 0 1 2 3 "):
                self.check_unchanged(desk_with(TWICE), row, "not known")
            if word != "crossings":
                self.check_unchanged(desk_with(TWICE), word + " 0 1 2 3", "not known")
        for row in ("", " ", "\n", "\t", "help", "ok", "places 1", "0", ";", "show ; show", "web 3\nweb 4"):
            self.check_unchanged(desk_with(TWICE), row, "not known")

    def test_no_text(self):
        for row in JUNK + ([], ["show"], ("show",), b"show", 0, None, True, {"show": 1}):
            if not isinstance(row, str):
                self.check_unchanged(desk_with(TWICE), row, "not known")


class Back(Checked):
    def test_behind_each_changing_row(self):
        rows = ("web 5", "read places 2", "tie 0 2", "drop 0 1", "lead 0 1", "loosen", "settle", "least")
        self.assertEqual(tuple(row.split(" ")[0] for row in rows), CHANGING)
        for row in rows:
            desk = desk_with(TWICE)
            self.assertNotIn(desk.say(row), ("not known", "no tie", "no web", "too many", "no drawing"))
            self.check_answers(desk, "back", "ok", "show", in_one_row(TWICE), "back", "ok", "show", "places 1",
                               "back", "nothing", "show", "places 1", "back", "nothing")

    def test_rows_that_change_nothing(self):
        for row in ("web 1", "read places 1", "loosen", "settle", "least"):
            desk = Desk()
            desk.say(row)
            self.check_answers(desk, "show", "places 1", "back", "ok", "back", "nothing")
        desk = desk_with(flat(FIVE_TIED[:1] + (FIVE_TIED[1][:3],)))
        self.check_answers(desk, "lead 0 1", "0", "web 3", "ok", "back", "ok", "back", "ok", "back", "ok", "back", "nothing")

    def test_behind_refused_rows_and_questions(self):
        desk = Desk()
        self.check_answers(desk, "web 7", "ok", "tie 0 1", "0")
        for row in ("web 0", "tie 0 1", "drop 3 4", "lead 3 4", "least", "must", "read x", "nonsense", "crossings", "faces",
                    "flat", "show", "crossings 0 1 0 1", "tie 0", None):
            desk.say(row)
        self.check_answers(desk, "back", "ok", "show", "places 7", "back", "ok", "show", "places 1", "back", "nothing")

    def test_several_times(self):
        desk = Desk()
        texts = []
        for row in ("web 6", "tie 0 1", "tie 1 2", "tie 2 0", "tie 3 4", "drop 1 2", "settle", "least", "loosen", "web 2"):
            texts.append(desk.say("show"))
            desk.say(row)
        for text in texts[::-1]:
            self.check_answers(desk, "back", "ok", "show", text)
        self.check_answers(desk, "back", "nothing", "web 2", "ok", "back", "ok", "back", "nothing")

    def test_back_is_not_taken_back(self):
        desk = Desk()
        self.check_answers(desk, "web 2", "ok", "web 3", "ok", "back", "ok", "show", "places 2", "tie 0 1", "0", "back", "ok",
                           "show", "places 2", "back", "ok", "show", "places 1", "back", "nothing")


class TheWhole(Checked):
    """Points 2 and 3."""

    def test_two_desks(self):
        one, other = Desk(), Desk()
        self.check_answers(one, "web 3", "ok", "tie 0 1", "0")
        self.check_answers(other, "show", "places 1", "back", "nothing", "web 5", "ok")
        self.check_answers(one, "show", "places 3 ; ring 0: 1 ; ring 1: 0", "back", "ok", "show", "places 3")
        self.check_answers(other, "show", "places 5", "back", "ok", "back", "nothing")
        self.check_answers(one, "back", "ok", "back", "nothing")

    def test_the_same_again(self):
        chance = random.Random(157)
        rows = self.some_rows(chance, 300)
        one, other = Desk(), Desk()
        self.assertEqual([one.say(row) for row in rows], [other.say(row) for row in rows])

    def some_rows(self, chance, many):
        rows = ["web 6"]
        for each in range(many):
            word = chance.choice(("tie",) * 8 + ("drop", "lead", "back", "loosen", "settle", "least", "crossings", "faces",
                                                 "flat", "must", "crossings 4", "web", "read"))
            some = [str(chance.randrange(8)) for number in range(4)]
            if word in ("tie", "drop", "lead"):
                rows.append(" ".join([word] + some[:2]))
            elif word == "crossings 4":
                rows.append(" ".join(["crossings"] + some))
            elif word == "web":
                rows.append("web " + chance.choice(("6", "7", "8")) if chance.random() < 0.2 else "show")
            elif word == "read":
                drawing = chance.choice((TWICE, ROUND_FOUR, FALLEN_FOUR, COMMON_PLACE))
                rows.append("read " + in_one_row(drawing) if chance.random() < 0.2 else "read")
            else:
                rows.append(word)
        return rows

    def test_any_rows_keep_a_drawing_that_stands(self):
        """Each answer is held against the drawing ahead of the row and behind it."""
        refusals = ("no web", "no tie", "too many", "no drawing", "not known", "nothing")
        for seed in range(6):
            chance = random.Random(158 + seed)
            desk = Desk()
            earlier = []
            for row in self.some_rows(chance, 150):
                ahead = shown(desk)
                answer = desk.say(row)
                now = shown(desk)
                self.assertIs(stands(now), True)
                word = row.split(" ")[0]
                if answer in refusals or word not in CHANGING + ("back",):
                    self.assertEqual(now, ahead)
                elif word == "back":
                    self.assertEqual(now, earlier.pop())
                else:
                    earlier.append(ahead)
                if answer == "nothing":
                    self.assertEqual(earlier, [])
                self.check_answer(row, answer, ahead, now)

    def check_answer(self, row, answer, ahead, now):
        word, *rest = row.split(" ")
        if word in ("tie", "drop", "lead"):
            tie = tuple(sorted((int(rest[0]), int(rest[1]))))
            fits = tie[0] < tie[1] < ahead[0] and (tie in ahead[1]) == (word != "tie")
            if not fits or (word == "tie" and len(ahead[1]) == 18):
                self.assertEqual(answer, "no tie")
            elif word == "drop":
                self.assertEqual((answer, now), ("ok", without(ahead, tie)))
            else:
                rest = ahead if word == "tie" else without(ahead, tie)
                self.assertEqual(without(now, tie), rest)
                self.assertEqual(answer, str(crossings_on(now, tie)))
                self.assertEqual(answer, str(len(best(rest, tie)[0][1])))
        elif word in ("loosen", "settle") or row == "crossings":
            self.assertEqual(answer, str(count(now)))
            self.assertEqual(now[:2], ahead[:2])
        elif word in ("least", "must"):
            self.assertEqual(answer, str(must(now[:2])[0]) if now[0] <= 6 else "too many")
            self.assertTrue(word == "must" or now[0] > 6 or count(now) == int(answer))
        elif word == "flat":
            self.assertEqual(answer, "no" if odd_set(now[:2], ()) else "yes")
        elif word == "faces":
            self.assertEqual(int(answer), len(faces(now)) + now[2].count(()))


if __name__ == "__main__":
    unittest.main()
