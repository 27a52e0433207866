"""Nets put together: two of them beside one another, and two rim ends hooked."""

from hookmill.errors import NoEnd
from hookmill.nets import arranged, greatest, mate, rim


def beside(one, other):
    step = greatest(one)
    rim_step = rim(one)
    pieces = [(number + step, name) for number, name in other[0]]
    ties = [(moved(end, step, rim_step), moved(far, step, rim_step)) for end, far in other[1]]
    return arranged(list(one[0]) + pieces, list(one[1]) + ties, one[2] + other[2])


def moved(end, step, rim_step):
    if end[0] == 0:
        return (0, end[1] + rim_step)
    return (end[0] + step, end[1])


def hooked(net, k, l):
    at_k = mate(net, (0, k))
    at_l = mate(net, (0, l))
    if k == l:
        raise NoEnd("a rim end is not hooked with itself")
    gone = ((0, k), (0, l))
    ties = [tie for tie in net[1] if tie[0] not in gone and tie[1] not in gone]
    rings = net[2]
    if at_k == (0, l):
        rings = rings + 1
    else:
        ties.append((at_k, at_l))
    left = [(closed_up(end, k, l), closed_up(far, k, l)) for end, far in ties]
    return arranged(net[0], left, rings)


def closed_up(end, k, l):
    if end[0] != 0:
        return end
    return (0, end[1] - len([gone for gone in (k, l) if gone < end[1]]))
