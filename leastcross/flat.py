"""Flat drawings: rings by which a web is drawn without crossings, where there are such.

Each block of a web is drawn for itself. At first it has one tie and one face; then a path through what is left
of it is led over a face, which it cuts in two, until nothing is left. What is left falls into clumps that hang
together beside the drawn places; a clump that has one face alone to go into goes first, and one that has none
shows that the web can't be drawn flat.
"""

from leastcross.drawings import made_plain, tied_to
from leastcross.webs import parts


def flat(web):
    """Tell a drawing of a web without crossings that stands, or None where there is none."""
    n, ties = web
    rings = [() for place in range(n)]
    for block in blocks(web):
        walks = walks_of(n, block)
        if walks is None:
            return None
        for place in range(n):
            # Blocks that have one place alone in common stand there one behind another.
            rings[place] += ring_by(walks, place, tied_to(block, place))
    return made_plain((n, ties, tuple(rings), tuple(() for tie in ties), ()))


def blocks(web):
    """Tell the ties of a web in blocks: two are in one where no place, taken away, leaves them in unlike parts."""
    n, ties = web
    parts_without = [part_numbers(n, [tie for tie in ties if place not in tie]) for place in range(n)]
    found = {}
    for tie in ties:
        key = tuple(numbers[tie[1] if tie[0] == place else tie[0]] for place, numbers in enumerate(parts_without))
        found.setdefault(key, []).append(tie)
    return list(found.values())


def part_numbers(n, ties):
    """Tell for each of n places the number of its part."""
    numbers = [0 for place in range(n)]
    for number, part in enumerate(parts((n, ties))):
        for place in part:
            numbers[place] = number
    return numbers


def walks_of(n, block):
    """Tell the faces of a flat drawing of a block, or None where there is none.

    A face is told as the places that one comes by, going round with the face at the left.
    """
    walks = [block[0]]
    left = block[1:]
    while left:
        drawn = {place: True for walk in walks for place in walk}
        fits = [(clump, walks_for(clump, drawn, walks)) for clump in clumps(n, left, drawn)]
        clump, open_walks = min(fits, key=lambda fit: len(fit[1]))
        if not open_walks:
            return None
        path = path_through(clump, drawn)
        walks.remove(open_walks[0])
        walks.extend(cut(open_walks[0], path))
        left = [tie for tie in left if not is_on_path(tie, path)]
    return walks


def clumps(n, left, drawn):
    """Tell the ties that are left in clumps: those of one clump hang together by places that aren't drawn."""
    numbers = part_numbers(n, [tie for tie in left if tie[0] not in drawn and tie[1] not in drawn])
    found = {}
    for tie in left:
        loose = [place for place in tie if place not in drawn]
        # A tie between two drawn places is a clump of its own.
        key = (numbers[loose[0]],) if loose else tie
        found.setdefault(key, []).append(tie)
    return list(found.values())


def walks_for(clump, drawn, walks):
    """Tell the faces that have all drawn places of a clump."""
    held = [place for tie in clump for place in tie if place in drawn]
    return [walk for walk in walks if all(place in walk for place in held)]


def path_through(clump, drawn):
    """Tell a path through a clump from one drawn place to another, by places that aren't drawn."""
    first = min([place for tie in clump for place in tie if place in drawn])
    paths = [(first,)]
    seen = {first: True}
    # Paths are put behind while they are gone through, so the shortest ones come first.
    at = 0
    while True:
        path = paths[at]
        for place in tied_to(clump, path[-1]):
            if place in drawn and place != first:
                return path + (place,)
            if place not in seen:
                seen[place] = True
                paths.append(path + (place,))
        at += 1


def cut(walk, path):
    """Tell the two faces into which a face is cut by a path between two of its places."""
    at = walk.index(path[0])
    turned = walk[at:] + walk[:at]
    to = turned.index(path[-1])
    return [path + turned[to + 1:], turned[:to + 1] + path[-2:0:-1]]


def is_on_path(tie, path):
    """Tell whether a path goes along a tie."""
    return any(tie in (step, step[::-1]) for step in zip(path, path[1:]))


def ring_by(walks, place, tied):
    """Tell the ring of a place in a block, as the faces tell it."""
    behind = {}
    for walk in walks:
        if place in walk:
            at = walk.index(place)
            # Who comes to a place goes on to the one that stands just ahead, in its ring, of the one left.
            behind[walk[(at + 1) % len(walk)]] = walk[at - 1]
    ring = tuple(tied[:1])
    while len(ring) < len(tied):
        ring += (behind[ring[-1]],)
    return ring
