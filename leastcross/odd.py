"""Odd sets: what turns make of the pairs that cross, and the sets of pairs that no turns can be without."""

from leastcross.kinds import are_wholes, is_tuple_of
from leastcross.webs import by_turns, pairs


def turns_at(pair):
    """Tell the four turns that change the oddness of a pair."""
    one, other = pair
    return ((one, other[0]), (one, other[1]), (other, one[0]), (other, one[1]))


def turned(web, turns):
    """Tell the pairs that cross an odd number of times where turns are made in the round drawing, rising."""
    return tuple(pair for pair in pairs(web) if is_odd_after(pair, turns))


def is_odd_after(pair, turns):
    """Tell whether a pair crosses an odd number of times where turns are made in the round drawing."""
    one, other = pair
    made = sum([turns.count(turn) for turn in turns_at(pair)])
    return (made + int(by_turns(one, other))) % 2 == 1


def is_odd_set(web, some):
    """Tell of anything whether it is an odd set of a web."""
    return (are_pairs_of(web, some) and are_rising(some)
            and is_even_at_all_turns(some) and has_odd_many_by_turns(some))


def are_pairs_of(web, some):
    """Tell whether anything is a tuple of pairs of a web."""
    known = {pair: True for pair in pairs(web)}
    # The kinds are asked first: to Python (0, True) is equal to the tie (0, 1).
    return isinstance(some, tuple) and all(is_made_as_pair(pair) and pair in known for pair in some)


def is_made_as_pair(thing):
    """Tell whether anything is made as a pair is, of tuples of whole numbers."""
    return is_tuple_of(thing, 2) and are_wholes(thing[0]) and are_wholes(thing[1])


def are_rising(some):
    """Tell whether the items of a tuple rise, none twice."""
    return all(one < other for one, other in zip(some, some[1:]))


def is_even_at_all_turns(some):
    """Tell whether a set has, for each tie and each other place, an even number of pairs that a turn changes."""
    odd_turns = {}
    for pair in some:
        for turn in turns_at(pair):
            odd_turns[turn] = not odd_turns.get(turn, False)
    return not any(odd_turns.values())


def has_odd_many_by_turns(some):
    """Tell whether the ends of an odd number of pairs of a set stand by turns."""
    return len([pair for pair in some if by_turns(pair[0], pair[1])]) % 2 == 1


def odd_set(web, met):
    """Tell an odd set that has none of the pairs that are met, or None where there is none."""
    all_pairs = pairs(web)
    rows = even_rows(all_pairs)
    for pair in met:
        rows = rows_without(rows, all_pairs.index(pair))
    return least_odd(all_pairs, rows)


# A row is a set of pairs, told as a number: its bit p is 1 where it has pair number p, and the bit behind those
# of all pairs is 1 where it has an odd number of pairs whose ends stand by turns. Two rows put together (^)
# have what is in just one of them, and that last bit stays right.

def even_rows(all_pairs):
    """Tell rows of which all sets are put together that are even at all turns."""
    return sifted(rows_with_turns(all_pairs), len(all_pairs) + 1)[1]


def rows_with_turns(all_pairs):
    """Tell for each pair the row that has it alone, with a further bit for each turn that changes the pair."""
    bit_of_turn = {}
    rows = []
    for number, pair in enumerate(all_pairs):
        row = 1 << number
        if by_turns(pair[0], pair[1]):
            row |= 1 << len(all_pairs)
        for turn in turns_at(pair):
            bit = bit_of_turn.setdefault(turn, len(all_pairs) + 1 + len(bit_of_turn))
            row |= 1 << bit
        rows.append(row)
    return rows


def sifted(rows, width):
    """Tell (kept, low): rows by which bits from width on are taken away, and rows that have no such bits left.

    Kept rows stand under their lengths. Low ones are put together of rows; all that rows make without bits from
    width on is put together of low ones.
    """
    kept = {}
    low = []
    for row in rows:
        rest = put_together(row, kept, width)
        if rest.bit_length() > width:
            kept[rest.bit_length()] = rest
        else:
            low.append(rest)
    return (kept, low)


def put_together(row, kept, width):
    """Put kept rows to a row until its bits from width on are gone, if they can be."""
    while row.bit_length() > width and row.bit_length() in kept:
        row ^= kept[row.bit_length()]
    return row


def rows_without(rows, number):
    """Tell rows of which all those sets are put together that rows make and that have not the pair of a number."""
    bit = 1 << number
    having = [row for row in rows if row & bit]
    return [row for row in rows if not row & bit] + [row ^ having[0] for row in having[1:]]


def least_odd(all_pairs, rows):
    """Tell the odd set with the fewest pairs among rows, or None where none of them is odd."""
    odd = [pairs_of_row(all_pairs, row) for row in rows if row >> len(all_pairs)]
    return min(odd, key=len) if odd else None


def pairs_of_row(all_pairs, row):
    """Tell the pairs of a row, rising."""
    return tuple(pair for number, pair in enumerate(all_pairs) if row >> number & 1)
