"""A net told once for all, whatever numbers its pieces have, and how two nets are alike.

The hooks of a piece have numbers: so a walk through a part, hook by hook, hangs on nothing but the piece with which
it begins. What a walk writes down, row by row, is the same for alike parts that begin with like pieces.
"""

from hookmill.nets import arranged, mates_of
from hookmill.parts import parts


def told(net):
    return renumbered(net, way(net))


def way(net):
    names = dict(net[0])
    ends = ends_around(net)
    walks = sorted([first_walk(names, ends, part) for part in parts(net)])
    order = []
    for rows, numbers in walks:
        order.extend(numbers)
    return sorted([(number, place) for place, number in enumerate(order, start=1)])


def alike(one, other):
    one_way = way(one)
    other_way = way(other)
    if renumbered(one, one_way) != renumbered(other, other_way):
        return None
    back = {}
    for number, place in other_way:
        back[place] = number
    return [(number, back[place]) for number, place in one_way]


def renumbered(net, pairs):
    new = dict(pairs)
    # The rim stays where it is.
    new[0] = 0
    pieces = [(new[number], name) for number, name in net[0]]
    ties = [((new[one[0]], one[1]), (new[other[0]], other[1])) for one, other in net[1]]
    return arranged(pieces, ties, net[2])


def ends_around(net):
    mates = mates_of(net)
    ends = {}
    for number, name in net[0]:
        around = []
        while (number, len(around)) in mates:
            around.append(mates[(number, len(around))])
        ends[number] = around
    return ends


def first_walk(names, ends, part):
    # Of the walks from every start, the one whose rows come first: that one is the same for all alike parts.
    best = None
    for start in starts_of(ends, part):
        walk = walk_from(names, ends, start, best)
        if walk is not None:
            best = walk
    return best


def starts_of(ends, part):
    # Rim ends stay what they are: where a part has some, the piece at the least of them is start enough.
    at_rim = []
    for number in part:
        at_rim.extend([(far[1], number) for far in ends[number] if far[0] == 0])
    if at_rim:
        return [min(at_rim)[1]]
    return part


def walk_from(names, ends, start, best):
    # None as soon as a row shows that this walk comes behind the best one: most walks need not be gone to their end.
    order = [start]
    places = {0: 0, start: 1}
    rows = []
    level = best is not None
    while len(rows) < len(order):
        number = order[len(rows)]
        row = [names[number]]
        for far, hook in ends[number]:
            if far not in places:
                order.append(far)
                places[far] = len(order)
            row.append(places[far])
            row.append(hook)
        if level and row != best[0][len(rows)]:
            if row > best[0][len(rows)]:
                return None
            level = False
        rows.append(row)
    return (rows, order)
