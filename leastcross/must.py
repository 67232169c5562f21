"""The must: the least number of pairs that any turns have, so the crossings that no drawing can be without."""

from leastcross.errors import TooMany
from leastcross.odd import even_rows, least_odd, put_together, rows_without, sifted, turns_at
from leastcross.webs import by_turns, pairs

MOST_FOR_MUST = 6


def must(web):
    """Tell (number, some, turns): the must of a web, as many pairs, and turns that have just these; TooMany."""
    if web[0] > MOST_FOR_MUST:
        raise TooMany("there are more than six places")
    all_pairs = pairs(web)
    rows = even_rows(all_pairs)
    number = 0
    hit = hitting(all_pairs, rows, number)
    while hit is None:
        number += 1
        hit = hitting(all_pairs, rows, number)
    # No turns have fewer pairs than the number: so turns that have none but these have all of them.
    some = tuple(sorted(hit))
    return (number, some, turns_for(web, some))


def hitting(all_pairs, rows, number):
    """Tell at most so many pairs that hit each odd set that rows make, or None where there are none such.

    One pair of each odd set must be among them: so it is enough to try the pairs of one odd set.
    """
    odd = least_odd(all_pairs, rows)
    if odd is None:
        return []
    if number == 0:
        return None
    for pair in odd:
        others = hitting(all_pairs, rows_without(rows, all_pairs.index(pair)), number - 1)
        if others is not None:
            return [pair] + others
    return None


def turns_for(web, some):
    """Tell turns that have no pairs but some, which hit each odd set; rising, none twice."""
    turns = all_turns(web)
    others = [pair for pair in pairs(web) if pair not in some]
    kept = sifted(rows_of_turns(turns, others), len(turns))[0]
    made = put_together(round_row(turns, others), kept, len(turns))
    return tuple(turn for number, turn in enumerate(turns) if made >> number & 1)


def all_turns(web):
    """Tell all turns of a web, rising."""
    n, ties = web
    return [(tie, place) for tie in ties for place in range(n) if place not in tie]


def rows_of_turns(turns, others):
    """Tell a row for each turn: the bit of its own number, and behind the bits of all turns those of its pairs."""
    number_of = {turn: number for number, turn in enumerate(turns)}
    rows = [1 << number for number in range(len(turns))]
    for at, pair in enumerate(others):
        for turn in turns_at(pair):
            rows[number_of[turn]] |= 1 << (len(turns) + at)
    return rows


def round_row(turns, others):
    """Tell the row that has no turns and just the pairs that cross in the round drawing."""
    row = 0
    for at, pair in enumerate(others):
        if by_turns(pair[0], pair[1]):
            row |= 1 << (len(turns) + at)
    return row
