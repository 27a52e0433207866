"""What several test files share: a stock, nets at a toss, nets with other numbers, and alike nets the slow way."""

import itertools

from hookmill.books import turned
from hookmill.joins import beside, hooked
from hookmill.nets import made, rim

STOCK = {"dot": 0, "arm": 1, "leg": 1, "fork": 2, "hand": 6}
NOTHING = ((), (), 0)
BIG = 10 ** 60 - 1


def some_net(source, count, least_rim=2, most_rim=8, stock=STOCK):
    """A net of so many pieces, tied at the toss of the source, with some rim ends (at most one more than told)."""
    numbers = sorted(source.sample(range(1, 50), count))
    pieces = [(number, source.choice(sorted(stock))) for number in numbers]
    ends = [(number, hook) for number, name in pieces for hook in range(stock[name] + 1)]
    rim_ends = source.randint(least_rim, most_rim)
    rim_ends += (len(ends) + rim_ends) % 2
    ends += [(0, k) for k in range(rim_ends)]
    source.shuffle(ends)
    return made(stock, pieces, list(zip(ends[::2], ends[1::2])), source.randrange(3))


def with_numbers(net, new):
    """The net with its pieces given the numbers that the dict tells."""
    new = {0: 0, **new}
    pieces = sorted((new[number], name) for number, name in net[0])
    ties = sorted(tuple(sorted((new[number], hook) for number, hook in tie)) for tie in net[1])
    return (tuple(pieces), tuple(ties), net[2])


def tossed_numbers(source, net, bound=10 ** 60):
    """The net with other numbers, and the dict by which they came."""
    found = []
    while len(found) < len(net[0]):
        number = source.randrange(1, bound)
        if number not in found:
            found.append(number)
    new = {piece[0]: number for piece, number in zip(net[0], found)}
    return with_numbers(net, new), new


def slowly_alike(one, other):
    """Whether some way to give numbers makes the one the other: all are tried."""
    numbers = [number for number, name in one[0]]
    others = [number for number, name in other[0]]
    if len(numbers) != len(others):
        return False
    return any(with_numbers(one, dict(zip(numbers, row))) == other for row in itertools.permutations(others))


def leads(case, one, other, pairs):
    """The list of pairs leads from the one net to the other, piece by piece and tie by tie, as it is asked for."""
    case.assertIsInstance(pairs, list)
    case.assertTrue(all(isinstance(pair, tuple) and len(pair) == 2 for pair in pairs))
    case.assertEqual([number for number, new in pairs], [number for number, name in one[0]])
    case.assertEqual(sorted(new for number, new in pairs), [number for number, name in other[0]])
    case.assertEqual(with_numbers(one, dict(pairs)), other)


def beside_all(nets):
    """Many nets without rim ends beside one another."""
    pieces, ties, rings, step = [], [], 0, 0
    for net in nets:
        pieces += [(number + step, name) for number, name in net[0]]
        ties += [tuple((number + step, hook) for number, hook in tie) for tie in net[1]]
        rings += net[2]
        step = max([number for number, name in pieces], default=0)
    return (tuple(pieces), tuple(ties), rings)


def wheel(count, name="arm"):
    """So many arms, each one's side hook tied to the next one's chief hook, round in a ring."""
    ties = [((n, 1), (n % count + 1, 0)) for n in range(1, count + 1)]
    return made(STOCK, [(n, name) for n in range(1, count + 1)], ties)


def row(count, name="arm"):
    """So many arms between two dots that hold the ends."""
    pieces = [(1, "dot")] + [(n, name) for n in range(2, count + 2)] + [(count + 2, "arm")]
    ties = [((n, 0), (n + 1, 1)) for n in range(1, count + 2)] + [((count + 2, 0), (count + 3, 0))]
    return made(STOCK, pieces + [(count + 3, "dot")], ties)


def looms(source, count):
    """So many hands, all of one look from nearby, tied through three rows of numbers at a toss."""
    ties = []
    for hook in (1, 3, 5):
        far = list(range(1, count + 1))
        source.shuffle(far)
        ties += [((n, hook), (far[n - 1], hook + 1)) for n in range(1, count + 1)]
    pairs = list(range(1, count + 1))
    source.shuffle(pairs)
    ties += [((one, 0), (other, 0)) for one, other in zip(pairs[::2], pairs[1::2])]
    return made(STOCK, [(n, "hand") for n in range(1, count + 1)], ties)


def lively_net(source, count, rim_ends=0, stock=STOCK, chiefs=3):
    """A net at a toss; of its chief hooks all but each so-many-th are tied to each other."""
    numbers = sorted(source.sample(range(1, 3 * count + 2), count))
    pieces = [(number, source.choice(sorted(stock))) for number in numbers]
    tied = source.sample(numbers, count - count // chiefs)
    tied = tied[:len(tied) // 2 * 2]
    ties = [((one, 0), (other, 0)) for one, other in zip(tied[::2], tied[1::2])]
    ends = [(number, hook) for number, name in pieces for hook in range(stock[name] + 1) if hook or number not in tied]
    ends += [(0, k) for k in range(rim_ends + (len(ends) + rim_ends) % 2)]
    source.shuffle(ends)
    return made(stock, pieces, ties + list(zip(ends[::2], ends[1::2])), source.randrange(3))


def net_with_rim(source, count, rim_ends, stock):
    """A net at a toss with just so many rim ends, or None where the hooks of its pieces can not be tied so."""
    net = lively_net(source, count, rim_ends, stock)
    return net if len([end for tie in net[1] for end in tie if end[0] == 0]) == rim_ends else None


def even_net(source, count, sides, stock):
    """A net for a name with itself: two like halves, some of whose rim ends are hooked with each other's."""
    half = None
    while half is None:
        more = source.randrange(3)
        half = net_with_rim(source, count, sides + more, stock)
    net = beside(half, half)
    for again in range(more):
        # The last rim end of the first half, and that of the second.
        first = sides + more - again - 1
        net = hooked(net, first, rim(net) - 1)
    return net


def some_rules(source, stock, left_out=0, most_pieces=2):
    """Rules at a toss for all pairs of names but some."""
    rules = []
    for one, other in itertools.combinations_with_replacement(sorted(stock), 2):
        if source.randrange(100) < left_out:
            continue
        if one == other:
            net = even_net(source, source.randrange(most_pieces), stock[one], stock)
        else:
            net = None
            while net is None:
                net = net_with_rim(source, source.randrange(most_pieces + 1), stock[one] + stock[other], stock)
            if source.randrange(2):
                one, other, net = other, one, turned(net, stock[one])
        rules.append((one, other, net))
    return rules


NATS = """kind nat
kind list
maker zero nat
maker next nat nat
maker void list
maker put list nat list
taker add nat nat nat
taker mul nat nat nat
taker sum nat list
taker join list list list
rule add zero m = m
rule add next n m = next add n m
rule mul zero m = zero
rule mul next n m = add m mul n m
rule sum void = zero
rule sum put n l = add n sum l
rule join void l = l
rule join put n l m = put n join l m"""


def number(count):
    """The words of a whole number."""
    return ("next",) * count + ("zero",)


def some_program(source):
    """A sound program at a toss; each kind has a maker without parts, so that each kind has terms."""
    letters = "abcdefghijklmnopqrstuvwxyz"
    kinds = tuple(letters[place] * 2 for place in range(source.randrange(1, 4)))
    makers = [("m" + kind, kind, ()) for kind in kinds]
    for place in range(source.randrange(1, 5)):
        parts = tuple(source.choice(kinds) for part in range(source.randrange(4)))
        makers.append(("n" + letters[place], source.choice(kinds), parts))
    source.shuffle(makers)
    takers = []
    for place in range(source.randrange(1, 5)):
        more = tuple(source.choice(kinds) for part in range(source.randrange(3)))
        takers.append(("t" + letters[place], source.choice(kinds), source.choice(kinds), more))
    rules = [some_rule(source, (kinds, makers, takers), taker, maker)
             for taker in takers for maker in makers if maker[1] == taker[2]]
    source.shuffle(rules)
    return (kinds, tuple(makers), tuple(takers), tuple(rules))


def some_rule(source, heads, taker, maker):
    kinds = maker[2] + taker[3]
    names = source.sample("pqrstuvwxyz", len(kinds))
    words = None
    while words is None or len(words) > 40:
        words = some_words(source, heads, taker[1], source.randrange(1, 9), list(zip(names, kinds)))
    return (taker[0], maker[0], tuple(names), words)


def some_words(source, heads, wanted, size, known=()):
    """A term of a kind at a toss; once it has the size it is brought to its end with words that nothing follows."""
    words, waiting = [], [wanted]
    while waiting:
        kind = waiting.pop()
        small = len(words) + len(waiting) >= size
        choices = [(name, ()) for name, one in known if one == kind] * 3
        choices += [(name, parts) for name, one, parts in heads[1] if one == kind and not (small and parts)]
        if not small:
            choices += [(name, (taken,) + more) for name, one, taken, more in heads[2] if one == kind] * 2
        name, parts = source.choice(choices)
        words.append(name)
        waiting += parts[::-1]
    return tuple(words)
