"""Flows: each tie of a net leads from an end that gives to one that takes, with a kind; and levels along them."""

from hookmill.errors import Unfit
from hookmill.nets import mates_of, rim
from hookmill.roles import CopyRole, role_of


def flows(program, net, given=None):
    return Chart(program, net, () if given is None else given).flows_found()


def levels(program, net, given=None):
    givers = givers_by_piece(net, flows(program, net, given))
    takers = takers_by_piece(givers)
    found = {}
    # The pieces that take from none whose level is still to come.
    ready = [number for number in givers if not givers[number]]
    left = dict([(number, len(row)) for number, row in givers.items()])
    while ready:
        number = ready.pop()
        found[number] = max([found[giver] + 1 for giver in givers[number]], default=0)
        for taker in takers[number]:
            left[taker] = left[taker] - 1
            if left[taker] == 0:
                ready.append(taker)
    if len(found) != len(givers):
        raise Unfit("some pieces take from one another, round in a ring")
    return sorted(found.items())


def givers_by_piece(net, rows):
    givers = {}
    for number, name in net[0]:
        givers[number] = []
    for giver, taker, kind in rows:
        if giver[0] != 0 and taker[0] != 0:
            givers[taker[0]].append(giver[0])
    return givers


def takers_by_piece(givers):
    takers = dict([(number, []) for number in givers])
    for number, row in givers.items():
        for giver in row:
            takers[giver].append(number)
    return takers


class Chart:
    def __init__(self, program, net, given):
        self.net = net
        self.given = given
        self.mates = mates_of(net)
        names = sorted(set([name for number, name in net[0]]))
        roles = dict([(name, role_of(program, name)) for name in names])
        self.roles = dict([(number, roles[name]) for number, name in net[0]])

    def flows_found(self):
        if rim(self.net) != len(self.given) + 1:
            raise Unfit("the rim is not one more than the number of given kinds")
        if self.net[2] != 0:
            raise Unfit("there are rings")
        found = [self.directed(one, other) for one, other in self.net[1]]
        return sorted([(giver, taker, self.kind_between(giver, taker)) for giver, taker in found])

    def directed(self, one, other):
        if self.does_give(one) == self.does_give(other):
            raise Unfit("both ends of a tie give, or both take")
        return (one, other) if self.does_give(one) else (other, one)

    def does_give(self, end):
        if end[0] == 0:
            return end[1] != 0
        return end[1] in self.roles[end[0]].gives()

    def kind_between(self, giver, taker):
        kind = self.kind_from(giver)
        if taker[0] != 0 and self.roles[taker[0]].kind_at(taker[1]) not in (None, kind):
            raise Unfit("a hook takes another kind than it is given")
        return kind

    def kind_from(self, giver):
        passed = {}
        while giver[0] != 0 and isinstance(self.roles[giver[0]], CopyRole):
            if giver[0] in passed:
                raise Unfit("copies take from one another alone, for ever")
            passed[giver[0]] = True
            giver = self.mates[(giver[0], 0)]
        if giver[0] == 0:
            return self.given[giver[1] - 1]
        return self.roles[giver[0]].kind_at(giver[1])
