"""Nets: how one is made and checked, and what is asked of it.

A net is a tuple (pieces, ties, rings); an end is a tuple (piece number, hook), or (0, k) for the rim end k.
Refusals name no number in their words: a number may have more figures than Python writes out.
"""

from hookmill.errors import NoEnd, NoNet


def made(stock, pieces, ties, rings=0):
    if rings < 0:
        raise NoNet("rings are below 0")
    check_ends(sides_by_number(stock, pieces), ends_of(ties))
    return arranged(pieces, ties, rings)


def is_net(stock, net):
    try:
        return made(stock, net[0], net[1], net[2]) == net
    except NoNet:
        return False


def rim(net):
    return rim_among(ends_of(net[1]))


def greatest(net):
    if not net[0]:
        return 0
    return net[0][-1][0]


def mate(net, end):
    if is_end(end):
        for one, other in net[1]:
            if one == end:
                return other
            if other == end:
                return one
    raise NoEnd("this is no end of the net")


def live(net):
    # The ties of a net rise, the lesser end first: so do the pairs that are picked from them.
    return [(one[0], other[0]) for one, other in net[1] if is_chief(one) and is_chief(other)]


def mates_of(net):
    # For those that ask for many mates of one net: a walk through all ties for each would be slow.
    mates = {}
    for one, other in net[1]:
        mates[one] = other
        mates[other] = one
    return mates


def arranged(pieces, ties, rings):
    # Whatever makes a net of ends that are known to be right tells it through here, so that the form is one.
    rows = [(min(one, other), max(one, other)) for one, other in ties]
    return (tuple(sorted(pieces)), tuple(sorted(rows)), rings)


def sides_by_number(stock, pieces):
    sides = {}
    for number, name in pieces:
        if number < 1:
            raise NoNet("a piece has a number below 1")
        if number in sides:
            raise NoNet("a piece number is told twice")
        if name not in stock:
            raise NoNet("a piece has a name that the stock does not have")
        sides[number] = stock[name]
    return sides


def ends_of(ties):
    ends = []
    for one, other in ties:
        ends.append(one)
        ends.append(other)
    return ends


def rim_among(ends):
    return len([end for end in ends if end[0] == 0])


def check_ends(sides, ends):
    bound = rim_among(ends)
    seen = {}
    for end in ends:
        if end in seen:
            raise NoNet("an end stands twice")
        if not has_place(sides, bound, end):
            raise NoNet("an end is no hook of these pieces and no rim end, or lies behind a gap in the rim")
        seen[end] = True
    # All ends are right and unlike by now, so a count is enough to find one that is missing.
    if len(ends) - bound < sum([count + 1 for count in sides.values()]):
        raise NoNet("a hook stands nowhere")


def has_place(sides, bound, end):
    number = end[0]
    if number == 0:
        return 0 <= end[1] < bound
    return number in sides and 0 <= end[1] <= sides[number]


def is_chief(end):
    return end[0] != 0 and end[1] == 0


def is_end(thing):
    return isinstance(thing, tuple) and len(thing) == 2 and is_whole(thing[0]) and is_whole(thing[1])


def is_whole(thing):
    # Python counts True and False as numbers; the document does not.
    return isinstance(thing, int) and not isinstance(thing, bool)
