"""Weaving: a program's stock, rules and book, and its closed terms as nets."""

from hookmill.books import Book
from hookmill.kinds import heads_of
from hookmill.nets import arranged


def stock_of(program):
    stock = {}
    for name, kind, parts in program[1]:
        stock[name] = len(parts)
    for name, kind, taken, more in program[2]:
        stock[name] = 1 + len(more)
    stock["copy"] = 2
    stock["drop"] = 0
    return stock


def rules_of(program):
    sides = stock_of(program)
    found = [(rule[0], rule[1], rule_net(program, rule, sides[rule[1]])) for rule in program[3]]
    for name, kind, parts in program[1]:
        found.append(("copy", name, copy_net(name, len(parts))))
        found.append(("drop", name, drop_net(len(parts))))
    return found


def rule_net(program, rule, parts):
    # The taker's further things have the side hooks behind its answer's; the maker's parts come behind the taker's.
    names = rule[2]
    return woven_with(program, rule[3], names[parts:] + names[:parts])


def copy_net(maker, parts):
    pieces = [(1, maker), (2, maker)]
    ties = [((1, 0), (0, 0)), ((2, 0), (0, 1))]
    for j in range(1, parts + 1):
        number = j + 2
        pieces.append((number, "copy"))
        ties.extend([((number, 0), (0, j + 1)), ((number, 1), (1, j)), ((number, 2), (2, j))])
    return arranged(pieces, ties, 0)


def drop_net(parts):
    pieces = [(j, "drop") for j in range(1, parts + 1)]
    ties = [((j, 0), (0, j - 1)) for j in range(1, parts + 1)]
    return arranged(pieces, ties, 0)


def book_of(program):
    return Book(stock_of(program), rules_of(program))


def woven(program, words):
    return woven_with(program, words, ())


def woven_with(program, words, variables):
    loom = Loom(program)
    places = dict([(name, []) for name in variables])
    # Where what comes next is taken, the next one last.
    waiting = [(0, 0)]
    for word in words:
        place = waiting.pop()
        if word in places:
            places[word].append(place)
        else:
            waiting.extend(list(reversed(loom.lay(word, place))))
    for k, name in enumerate(variables, start=1):
        loom.serve((0, k), places[name])
    return arranged(loom.pieces, loom.ties, 0)


class Loom:
    def __init__(self, program):
        self.heads = heads_of(program)
        self.takers = dict([(taker[0], True) for taker in program[2]])
        self.pieces = []
        self.ties = []

    def add_piece(self, name):
        number = len(self.pieces) + 1
        self.pieces.append((number, name))
        return number

    def lay(self, word, place):
        number = self.add_piece(word)
        count = len(self.heads[word][1])
        if word in self.takers:
            self.ties.append(((number, 1), place))
            return [(number, 0)] + [(number, hook) for hook in range(2, count + 1)]
        self.ties.append(((number, 0), place))
        return [(number, hook) for hook in range(1, count + 1)]

    def serve(self, giver, places):
        if not places:
            self.ties.append(((self.add_piece("drop"), 0), giver))
        else:
            for place in places[:-1]:
                number = self.add_piece("copy")
                self.ties.append(((number, 0), giver))
                self.ties.append(((number, 1), place))
                giver = (number, 2)
            self.ties.append((giver, places[-1]))
