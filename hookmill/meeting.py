"""Two pieces meet: both go, and the net of the rule for their names comes in their place.

Refusals name no number in their words: a number may have more figures than Python writes out.
"""

from hookmill.errors import NoPair, Stuck
from hookmill.nets import arranged, greatest, is_chief, is_whole, mates_of

# Stands in the place of 0 for the rim ends of a rule's net while they lie among those of the net itself.
RULE_RIM = -1


def met(book, net, a, b):
    bench = Bench(book, net)
    came = bench.meet(a, b)
    return (bench.net_now(), came)


# What was there ahead of a meeting, so far as the meeting changes it, and the numbers that came.
class Deed:
    def __init__(self, pair, names, ties, rings, top):
        self.pair = pair
        self.names = names
        self.ties = ties
        self.rings = rings
        self.top = top
        self.came = ()


# A net on which many meetings are done without its being told anew after each: so a meeting is as quick in a great
# net as in a small one, but where the greatest number goes and none comes.
class Bench:
    def __init__(self, book, net):
        self.book = book
        self.names = dict(net[0])
        self.mates = mates_of(net)
        self.rings = net[2]
        self.top = greatest(net)
        self.done = []
        # The open pairs that came by the last meeting, rising.
        self.fresh = []

    def net_now(self):
        ties = [(end, far) for end, far in self.mates.items() if end < far]
        return arranged(list(self.names.items()), ties, self.rings)

    def pairs_done(self):
        return [deed.pair for deed in self.done]

    def open_now(self):
        return self.open_among([(number, 0) for number in self.names])

    def open_among(self, ends):
        found = {}
        for end in ends:
            # An end that is told here may be gone.
            far = self.mates.get(end)
            if far is not None and is_chief(end) and is_chief(far):
                found[(min(end[0], far[0]), max(end[0], far[0]))] = True
        return [pair for pair in sorted(found) if self.rule_of(pair) is not None]

    def names_of(self, pair):
        return (self.names[pair[0]], self.names[pair[1]])

    def rule_of(self, pair):
        names = self.names_of(pair)
        return self.book.rule_for(names[0], names[1])

    def hooks_of(self, number):
        return [(number, hook) for hook in range(self.book.sides_of(self.names[number]) + 1)]

    def is_live(self, a, b):
        known = is_whole(a) and is_whole(b) and a in self.names and b in self.names
        return known and self.mates[(a, 0)] == (b, 0)

    def pair_of(self, a, b):
        if not self.is_live(a, b):
            raise NoPair("the two numbers are no live pair")
        # Where both names are the same, the lesser number is the one of the rule; where not, the book turns the rule.
        pair = (min(a, b), max(a, b))
        if self.rule_of(pair) is None:
            raise Stuck("no rule is for the names of the two pieces")
        return pair

    def meet(self, a, b):
        pair = self.pair_of(a, b)
        rule = self.rule_of(pair)
        hooks = self.hooks_of(pair[0]) + self.hooks_of(pair[1])
        deed = Deed(pair, self.names_of(pair), [(end, self.mates[end]) for end in hooks], self.rings, self.top)
        # The new numbers follow the greatest of the net ahead: so the two go only behind this.
        came = self.lay_in(rule)
        self.take_out(pair)
        touched = [(number, 0) for number in came]
        for k, spot in enumerate([end for end in hooks if not is_chief(end)]):
            touched.append(self.mates[spot])
            self.splice(spot, (RULE_RIM, k))
        self.top = self.top_behind(pair, came)
        self.fresh = self.open_among(touched)
        deed.came = tuple(came)
        self.done.append(deed)
        return came

    def lay_in(self, rule):
        new = {0: RULE_RIM}
        for place, piece in enumerate(rule[0], start=1):
            new[piece[0]] = self.top + place
            self.names[self.top + place] = piece[1]
        for one, other in rule[1]:
            self.tie((new[one[0]], one[1]), (new[other[0]], other[1]))
        self.rings = self.rings + rule[2]
        return [self.top + place for place in range(1, len(rule[0]) + 1)]

    def take_out(self, pair):
        for number in pair:
            self.names.pop(number)
            self.mates.pop((number, 0))

    def splice(self, spot, rule_end):
        near = self.mates.pop(spot)
        far = self.mates.pop(rule_end)
        if near == rule_end:
            self.rings = self.rings + 1
        else:
            self.tie(near, far)

    def tie(self, end, far):
        self.mates[end] = far
        self.mates[far] = end

    def top_behind(self, pair, came):
        if came:
            return came[-1]
        if self.top == pair[1]:
            return max(self.names, default=0)
        return self.top

    def take_back(self):
        if not self.done:
            return False
        deed = self.done.pop()
        for number in deed.came:
            for end in self.hooks_of(number):
                self.mates.pop(end)
            self.names.pop(number)
        # Whatever had another mate ahead of the meeting was tied to one of the two pieces.
        for end, far in deed.ties:
            self.tie(end, far)
        self.names[deed.pair[0]] = deed.names[0]
        self.names[deed.pair[1]] = deed.names[1]
        self.rings = deed.rings
        self.top = deed.top
        return True
