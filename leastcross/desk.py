"""The desk: a drawing that is asked, and changed, by rows of words."""

from leastcross.drawings import count, count_of
from leastcross.errors import NoDrawing, NoText, NoTie, NoWeb, TooMany
from leastcross.faces import faces, stands
from leastcross.flat import flat
from leastcross.least import least
from leastcross.lenses import tidied
from leastcross.must import must
from leastcross.routes import best, is_there, led, put, settled, without
from leastcross.texts import number_told, read, written
from leastcross.webs import web

NOT_KNOWN = "not known"
ROW_END = " ; "


# What changes a drawing: each is told the drawing and a tuple of what the row tells, and tells the drawing that
# comes and the answer.

def bare(drawing, told):
    """Make places without ties."""
    n = web(told[0], ())[0]
    return ((n, (), tuple(() for place in range(n)), (), ()), "ok")


def read_in(drawing, told):
    """Read a text that is written in one row."""
    text = told[0]
    if "\n" in text:
        raise NoText("the text has line ends")
    made = read(text.replace(ROW_END, "\n"))
    if not stands(made):
        raise NoDrawing("the drawing does not stand")
    return (made, "ok")


def tie_of(told):
    """Tell the tie of two places that are told in either order."""
    return (min(told), max(told))


def tie_in(drawing, told):
    """Put a tie in by a best route."""
    tie = tie_of(told)
    route = best(drawing, tie)[0]
    return (put(drawing, tie, route), str(len(route[1])))


def tie_out(drawing, told):
    """Take a tie out."""
    return (without(drawing, tie_of(told)), "ok")


def tie_led(drawing, told):
    """Lead a tie anew."""
    tie = tie_of(told)
    made = led(drawing, tie)
    return (made, str(len(made[3][made[1].index(tie)])))


def all_loosened(drawing, told):
    """Loosen lenses until there is none."""
    return with_count(tidied(drawing))


def all_settled(drawing, told):
    """Lead ties anew until none can be led better."""
    return with_count(settled(drawing))


def drawn_least(drawing, told):
    """Draw the web anew with the fewest crossings."""
    return with_count(least(drawing[:2]))


def with_count(made):
    """Tell a drawing that comes with how many crossings it has as the answer."""
    return (made, str(count(made)))


# What is asked of a drawing: each is told the same and tells the answer alone.

def count_asked(drawing, told):
    """Tell how many crossings there are."""
    return str(count(drawing))


def count_of_asked(drawing, told):
    """Tell how many crossings there are between two ties."""
    one, other = tie_of(told[:2]), tie_of(told[2:])
    if not is_there(drawing, one) or not is_there(drawing, other) or one == other:
        raise NoTie("these are not two ties of the drawing")
    return str(count_of(drawing, one, other))


def faces_asked(drawing, told):
    """Tell how many faces there are, with one for each place without ties."""
    return str(len(faces(drawing)) + len([ring for ring in drawing[2] if not ring]))


def must_asked(drawing, told):
    """Tell the must of the web."""
    return str(must(drawing[:2])[0])


def flat_asked(drawing, told):
    """Tell whether the web can be drawn without crossings."""
    return "no" if flat(drawing[:2]) is None else "yes"


def text_asked(drawing, told):
    """Tell the text of the drawing in one row."""
    return written(drawing).replace("\n", ROW_END)


# Rows by their first word, and by how much is told behind it.
CHANGES = {
    ("web", 1): bare,
    ("read", 1): read_in,
    ("tie", 2): tie_in,
    ("drop", 2): tie_out,
    ("lead", 2): tie_led,
    ("loosen", 0): all_loosened,
    ("settle", 0): all_settled,
    ("least", 0): drawn_least,
}
QUESTIONS = {
    ("crossings", 0): count_asked,
    ("crossings", 4): count_of_asked,
    ("faces", 0): faces_asked,
    ("must", 0): must_asked,
    ("flat", 0): flat_asked,
    ("show", 0): text_asked,
}
BACK = ("back", 0)


def row_read(row):
    """Tell (key, told): by what a row is known, and a tuple of what it tells; the key is None where it is no row."""
    if not isinstance(row, str):
        return (None, ())
    word, *words = row.split(" ")
    if word == "read" and words:
        return (("read", 1), (" ".join(words),))
    told = tuple(number_told(each) for each in words)
    return (None, ()) if None in told else ((word, len(told)), told)


class Desk:
    """A desk with a drawing that stands, at first one place without ties."""

    def __init__(self):
        self.drawing = (1, (), ((),), (), ())
        self.earlier = []

    def say(self, row):
        """Tell the answer to a row."""
        key, told = row_read(row)
        try:
            return self.answer(key, told)
        except NoWeb:
            return "no web"
        except NoTie:
            return "no tie"
        except TooMany:
            return "too many"
        except (NoText, NoDrawing):
            return "no drawing"

    def answer(self, key, told):
        """Tell the answer to a row by its key; what is refused goes on as a refusal."""
        if key == BACK:
            return self.go_back()
        if key in CHANGES:
            return self.change(key, told)
        if key in QUESTIONS:
            ask = QUESTIONS[key]
            return ask(self.drawing, told)
        return NOT_KNOWN

    def change(self, key, told):
        """Change the drawing, keeping the one of before."""
        action = CHANGES[key]
        made, said = action(self.drawing, told)
        self.earlier.append(self.drawing)
        self.drawing = made
        return said

    def go_back(self):
        """Have the drawing as it was ahead of the last change that is not taken back."""
        if not self.earlier:
            return "nothing"
        self.drawing = self.earlier.pop()
        return "ok"
