"""Turns and odd sets by the words of points 16, 17 and 18: other means than the program's."""

from leastcross.webs import by_turns, pairs


def all_turns(web):
    n, ties = web
    return [(tie, place) for tie in ties for place in range(n) if place not in tie]


def some_turns(web, chance, most=12):
    turns = all_turns(web)
    return tuple(chance.choice(turns) for each in range(chance.randint(0, most))) if turns else ()


def turned_by_words(web, turns):
    """Point 16, word by word."""
    told = []
    for one, other in pairs(web):
        number = 1 if by_turns(one, other) else 0
        for tie, place in turns:
            number += (tie == one and place in other) + (tie == other and place in one)
        if number % 2 == 1:
            told.append((one, other))
    return tuple(told)


def is_even_by_words(web, some):
    """The first row of point 17, word by word."""
    n, ties = web
    for tie in ties:
        for place in range(n):
            if place not in tie:
                number = sum(1 for one, other in some
                             if (one == tie and place in other) or (other == tie and place in one))
                if number % 2 == 1:
                    return False
    return True


def is_odd_set_by_words(web, some):
    """Point 17 for tuples of pairs of the web, word by word."""
    rising = all(one < other for one, other in zip(some, some[1:]))
    return rising and is_even_by_words(web, some) and sum(by_turns(*pair) for pair in some) % 2 == 1


def turns_within(web, met):
    """Turns whose pairs are all met, or None where there are none: found with sets, turn by turn.

    Where there are such turns there is no odd set without a met pair, for an odd number of its pairs is among
    those of the turns.
    """
    kept = {}

    def lessened(changes, turns):
        while changes and max(changes) in kept:
            other_changes, other_turns = kept[max(changes)]
            changes, turns = changes ^ other_changes, turns ^ other_turns
        return changes, turns

    free = set(pairs(web)) - set(met)
    for tie, place in all_turns(web):
        start = frozenset(pair for pair in free if (tie == pair[0] and place in pair[1])
                          or (tie == pair[1] and place in pair[0]))
        changes, turns = lessened(start, frozenset([(tie, place)]))
        if changes:
            kept[max(changes)] = changes, turns
    changes, turns = lessened(frozenset(pair for pair in free if by_turns(*pair)), frozenset())
    return None if changes else tuple(sorted(turns))
