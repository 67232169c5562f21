"""Texts: drawings written as rows of words, and read again."""

from leastcross.drawings import is_drawing, made_plain
from leastcross.errors import NoText
from leastcross.webs import MOST_PLACES

FIGURES = "0123456789"
MOST_FIGURES = 9
SIDE_WORDS = ("right", "left")

# How many numbers, at the least, stand in a row that begins with a word.
FEWEST_NUMBERS = {"places": 1, "ring": 2, "way": 3, "cross": 6}


def written(drawing):
    """Tell the text of a drawing."""
    n, ties, rings, ways, crossings = made_plain(drawing)
    rows = [f"places {n}"]
    rows += [f"ring {place}: {in_a_row(ring)}" for place, ring in enumerate(rings) if ring]
    rows += [f"way {in_a_row(tie)}: {in_a_row(way)}" for tie, way in zip(ties, ways) if way]
    rows += [f"cross {number}: {in_a_row(one)} {in_a_row(other)} {SIDE_WORDS[side]}"
             for number, (one, other, side) in enumerate(crossings)]
    return "\n".join(rows)


def in_a_row(numbers):
    """Tell numbers as words, one blank between."""
    return " ".join([str(number) for number in numbers])


def read(text):
    """Tell the drawing whose text this is; NoText where anything else is handed in."""
    if not isinstance(text, str):
        raise NoText("this is no text")
    drawing = drawing_by_rows([numbers_in(row) for row in text.split("\n")])
    # Rows are read loosely: what is not as it must be is not written so again.
    if not is_drawing(drawing) or written(drawing) != text:
        raise NoText("this is no text of a drawing")
    return drawing


def numbers_in(row):
    """Tell (word, numbers) of a row, (None, ()) where it is none; sides are read as the numbers that they have."""
    word, *words = row.replace(":", "").split(" ")
    numbers = tuple(SIDE_WORDS.index(each) if each in SIDE_WORDS else number_told(each) for each in words)
    if None in numbers or word not in FEWEST_NUMBERS or len(numbers) < FEWEST_NUMBERS[word]:
        return (None, ())
    return (word, numbers)


def number_told(word):
    """Tell the number that a word is, written by one to nine figures with no 0 ahead; None where it is none."""
    if not 1 <= len(word) <= MOST_FIGURES or any(sign not in FIGURES for sign in word):
        return None
    if word[0] == "0" and word != "0":
        return None
    return int(word)


def drawing_by_rows(rows):
    """Tell what may be the drawing that rows tell, None where they can't tell one."""
    if rows[0][0] != "places":
        return None
    n = rows[0][1][0]
    # A great number is refused ahead: so many rings would take very long.
    if n > MOST_PLACES:
        return None
    rings = {numbers[0]: numbers[1:] for word, numbers in rows if word == "ring"}
    ways = {numbers[:2]: numbers[2:] for word, numbers in rows if word == "way"}
    ties = tuple(sorted({(min(i, j), max(i, j)) for i in rings for j in rings[i]}))
    return (
        n,
        ties,
        tuple(rings.get(place, ()) for place in range(n)),
        tuple(ways.get(tie, ()) for tie in ties),
        tuple((numbers[1:3], numbers[3:5], numbers[5]) for word, numbers in rows if word == "cross"),
    )
