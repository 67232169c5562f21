"""Papers: what shows that a must is no less, and the looker that reads them."""

from leastcross.kinds import is_tuple_of
from leastcross.must import must
from leastcross.odd import even_rows, is_odd_set, least_odd, rows_without
from leastcross.webs import pairs


def paper(web):
    """Tell a paper for the must of a web, None where it is 0; TooMany where the must is refused."""
    number = must(web)[0]
    if number == 0:
        return None
    all_pairs = pairs(web)
    return paper_for(all_pairs, even_rows(all_pairs), number)


def paper_for(all_pairs, rows, number):
    """Tell a paper for a number of which the must is no less, rows making the sets without pairs that are met."""
    odd = least_odd(all_pairs, rows)
    if number == 1:
        return (odd, ())
    return (odd, tuple([paper_for(all_pairs, rows_without(rows, all_pairs.index(pair)), number - 1) for pair in odd]))


def shown(web, paper, number):
    """Tell of anything whether it is a paper for a number from 1 on, no pairs being met."""
    return is_paper(web, paper, number, ())


def is_paper(web, thing, number, met):
    """Tell of anything whether it is a paper for a number, some pairs being met."""
    if number < 1 or not is_tuple_of(thing, 2):
        return False
    odd, papers = thing
    if not is_odd_set(web, odd) or any(pair in met for pair in odd):
        return False
    if number == 1:
        return is_tuple_of(papers, 0)
    return is_tuple_of(papers, len(odd)) and all(
        is_paper(web, each, number - 1, met + (pair,)) for pair, each in zip(odd, papers))
