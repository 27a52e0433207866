"""Rules, and a book of them: what comes in the place of two pieces that meet."""

from hookmill.errors import NoRule, TwoRules, Uneven
from hookmill.nets import arranged, is_net, rim
from hookmill.telling import alike


def turned(net, m):
    bound = rim(net)
    ties = [(turned_end(one, m, bound), turned_end(other, m, bound)) for one, other in net[1]]
    return arranged(net[0], ties, net[2])


def turned_end(end, m, bound):
    if end[0] != 0:
        return end
    if end[1] < m:
        return (0, end[1] + bound - m)
    return (0, end[1] - m)


class Book:
    def __init__(self, stock, rules):
        self.sides = dict(stock)
        self.found = {}
        for one, other, net in rules:
            check_rule(self, one, other, net)
            # Kept both ways round, so that nothing is turned anew at each meeting.
            self.found[(other, one)] = turned(net, self.sides[one])
            self.found[(one, other)] = net

    def sides_of(self, name):
        return self.sides.get(name)

    def rule_for(self, one, other):
        return self.found.get((one, other))


def check_rule(book, one, other, net):
    sides = book.sides_of(one)
    other_sides = book.sides_of(other)
    if sides is None or other_sides is None:
        raise NoRule("a rule is for a name that the stock does not have")
    if not is_net(book.sides, net):
        raise NoRule("a rule tells no net of the stock in its form")
    if rim(net) != sides + other_sides:
        raise NoRule("a rule's net has more or fewer rim ends than the two names have side hooks")
    if book.rule_for(one, other) is not None:
        raise TwoRules("two names have a rule that stands ahead")
    if one == other and alike(net, turned(net, sides)) is None:
        raise Uneven("a name with itself has a net that is another one when it is turned")
