"""Two-rowed webs and orders that several tests use, the same each time."""

import itertools
import random

# Seven and seven places with eighteen ties.
FULL = (7, 7, tuple(sorted(random.Random(110).sample(list(itertools.product(range(7), range(7))), 18))))

# None of these is an order of a row of three places.
WRONG_ORDERS = ((0, 1), (0, 1, 2, 3), (0, 1, 1), (0, 1, 3), (-1, 0, 1), (1, 2, 3), (0, True, 2), (False, 1, 2),
                [0, 1, 2], "012", None, (), 3, 0, True, ("0", "1", "2"), (0, 1, None), ((0, 1, 2),), (0, (1,), 2),
                (0, 1, 10 ** 5000), ((0,), (1,), (2,)), (None, None, None))


def any_two(chance, p, q, most=18):
    across = list(itertools.product(range(p), range(q)))
    return (p, q, tuple(sorted(chance.sample(across, chance.randint(0, min(most, len(across)))))))


def any_order(chance, many):
    return tuple(chance.sample(range(many), many))


def some_two(many, most=7):
    chance = random.Random(116)
    return [any_two(chance, chance.randint(1, most), chance.randint(1, most)) for each in range(many)]
