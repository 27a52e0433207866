import itertools
import random
import time
import unittest

from hookmill.nets import is_net, made, rim
from hookmill.telling import alike, told, way
from helper import (
    BIG, NOTHING, STOCK, beside_all, leads, looms, row, slowly_alike, some_net, tossed_numbers, wheel, with_numbers,
)

# A part with rim ends, a part without, a piece tied to itself, a tie of two rim ends, and rings.
MIXED = made(
    STOCK,
    [(2, "fork"), (3, "dot"), (5, "arm"), (6, "leg"), (8, "arm"), (9, "dot")],
    [((2, 0), (3, 0)), ((2, 1), (0, 2)), ((2, 2), (0, 0)), ((5, 0), (6, 1)), ((5, 1), (6, 0)), ((8, 0), (8, 1)),
     ((9, 0), (0, 4)), ((0, 1), (0, 3))],
    7,
)


class TellingCase(unittest.TestCase):
    def check_told(self, net):
        found = told(net)
        self.assertTrue(is_net(STOCK, found))
        self.assertEqual([number for number, name in found[0]], list(range(1, len(net[0]) + 1)))
        leads(self, net, found, way(net))
        self.assertEqual(told(found), found)
        return found

    def check_alike(self, one, other):
        self.assertEqual(self.check_told(one), self.check_told(other))
        leads(self, one, other, alike(one, other))
        leads(self, other, one, alike(other, one))

    def check_unlike(self, one, other):
        self.assertNotEqual(told(one), told(other))
        self.assertIsNone(alike(one, other))
        self.assertIsNone(alike(other, one))


class Told(TellingCase):
    def test_the_net_of_nothing(self):
        self.assertEqual(told(NOTHING), NOTHING)
        self.assertEqual(way(NOTHING), [])
        self.assertEqual(alike(NOTHING, NOTHING), [])

    def test_without_pieces(self):
        bow = ((), (((0, 0), (0, 1)),), BIG)
        self.assertEqual(told(bow), bow)
        self.assertEqual(way(bow), [])
        self.assertEqual(alike(bow, bow), [])

    def test_one_piece(self):
        net = made(STOCK, [(BIG, "dot")], [((BIG, 0), (0, 0))], 2)
        self.assertEqual(told(net), made(STOCK, [(1, "dot")], [((1, 0), (0, 0))], 2))
        self.assertEqual(way(net), [(BIG, 1)])

    def test_a_piece_tied_to_itself(self):
        net = made(STOCK, [(6, "arm")], [((6, 0), (6, 1))])
        self.assertEqual(told(net), made(STOCK, [(1, "arm")], [((1, 0), (1, 1))]))
        self.check_alike(net, made(STOCK, [(9, "arm")], [((9, 0), (9, 1))]))

    def test_mixed(self):
        self.check_told(MIXED)

    def test_all_numberings_of_a_small_net(self):
        numbers = [number for number, name in MIXED[0]]
        found = told(MIXED)
        for row_of_numbers in itertools.permutations(numbers):
            other = with_numbers(MIXED, dict(zip(numbers, row_of_numbers)))
            self.assertEqual(told(other), found)
            self.assertIsNotNone(alike(MIXED, other))

    def test_at_a_toss_with_other_numbers(self):
        source = random.Random(21)
        for turn in range(150):
            net = some_net(source, source.randrange(12), 0, source.randrange(6))
            for again in range(3):
                other, new = tossed_numbers(source, net)
                self.check_alike(net, other)

    def test_what_is_told_is_the_askers_own(self):
        one, other = MIXED, told(MIXED)
        first, second = way(one), alike(one, other)
        first.clear()
        second.append(None)
        leads(self, one, other, way(one))
        leads(self, one, other, alike(one, other))

    def test_by_name(self):
        self.assertEqual(told(net=NOTHING), NOTHING)
        self.assertEqual(way(net=NOTHING), [])
        self.assertEqual(alike(one=NOTHING, other=NOTHING), [])


class Alike(TellingCase):
    def check_against_all_ways(self, seed, turns, counts_of_pieces, stock):
        """Nets at a toss, two at a time, some alike and some not: what is told is what trying all ways tells."""
        source = random.Random(seed)
        counts = {True: 0, False: 0}
        for turn in range(turns):
            count = source.choice(counts_of_pieces)
            one = some_net(source, count, 0, 1, stock)[:2] + (source.randrange(2),)
            other = some_net(source, count, 0, 1, stock)[:2] + (source.randrange(2),)
            known = slowly_alike(one, other)
            counts[known] += 1
            self.assertEqual(alike(one, other) is not None, known)
            self.assertEqual(told(one) == told(other), known)
        self.assertGreater(min(counts.values()), turns // 30)

    def test_against_all_ways_tried(self):
        self.check_against_all_ways(22, 600, (0, 1, 2, 3, 4), {"dot": 0, "arm": 1})
        self.check_against_all_ways(32, 900, (0, 1, 2), {"dot": 0, "arm": 1, "leg": 1, "fork": 2})

    def test_against_all_ways_tried_with_one_name(self):
        self.check_against_all_ways(23, 300, (1, 2), {"fork": 2})
        self.check_against_all_ways(33, 300, (1, 2, 3), {"arm": 1})

    def test_one_name(self):
        for number, name in MIXED[0]:
            if name in ("arm", "leg"):
                other = {"arm": "leg", "leg": "arm"}[name]
                pieces = tuple((n, other) if n == number else (n, was) for n, was in MIXED[0])
                self.check_unlike(MIXED, (pieces,) + MIXED[1:])

    def test_which_piece_has_which_name(self):
        # Two arms and two legs in a ring: side by side, or by turns.
        ties = wheel(4)[1]
        beside = (((1, "arm"), (2, "arm"), (3, "leg"), (4, "leg")), ties, 0)
        by_turns = (((1, "arm"), (2, "leg"), (3, "arm"), (4, "leg")), ties, 0)
        self.check_unlike(beside, by_turns)
        self.check_alike(beside, (((1, "arm"), (2, "leg"), (3, "leg"), (4, "arm")), ties, 0))
        self.check_alike(by_turns, (((1, "leg"), (2, "arm"), (3, "leg"), (4, "arm")), ties, 0))

    def test_one_tie(self):
        forks = [(1, "fork"), (2, "fork")]
        straight = made(STOCK, forks, [((1, 0), (2, 0)), ((1, 1), (2, 1)), ((1, 2), (2, 2))])
        crossed = made(STOCK, forks, [((1, 0), (2, 0)), ((1, 1), (2, 2)), ((1, 2), (2, 1))])
        apart = made(STOCK, forks, [((1, 0), (2, 0)), ((1, 1), (1, 2)), ((2, 1), (2, 2))])
        for one, other in itertools.combinations((straight, crossed, apart), 2):
            self.check_unlike(one, other)

    def test_two_hooks_exchanged(self):
        pieces = [(1, "fork"), (2, "dot"), (3, "arm")]
        one = made(STOCK, pieces, [((1, 0), (0, 0)), ((1, 1), (2, 0)), ((1, 2), (3, 0)), ((3, 1), (0, 1))])
        other = made(STOCK, pieces, [((1, 0), (0, 0)), ((1, 2), (2, 0)), ((1, 1), (3, 0)), ((3, 1), (0, 1))])
        self.check_unlike(one, other)

    def test_two_rim_ends_exchanged(self):
        swap = {(0, 0): (0, 2), (0, 2): (0, 0)}
        ties = [(swap.get(one, one), swap.get(other, other)) for one, other in MIXED[1]]
        self.check_unlike(MIXED, made(STOCK, MIXED[0], ties, MIXED[2]))

    def test_two_rim_ends_of_two_like_parts_exchanged(self):
        pieces = [(1, "dot"), (2, "dot")]
        one = made(STOCK, pieces, [((1, 0), (0, 0)), ((2, 0), (0, 1))])
        other = made(STOCK, pieces, [((1, 0), (0, 1)), ((2, 0), (0, 0))])
        self.check_alike(one, other)
        self.assertEqual(alike(one, other), [(1, 2), (2, 1)])
        fork = [(1, "fork")]
        one = made(STOCK, fork, [((1, 0), (0, 0)), ((1, 1), (0, 1)), ((1, 2), (0, 2))])
        other = made(STOCK, fork, [((1, 0), (0, 0)), ((1, 1), (0, 2)), ((1, 2), (0, 1))])
        self.check_unlike(one, other)

    def test_ties_of_rim_ends_alone(self):
        one = ((), (((0, 0), (0, 1)), ((0, 2), (0, 3))), 0)
        other = ((), (((0, 0), (0, 2)), ((0, 1), (0, 3))), 0)
        self.check_unlike(one, other)
        self.check_alike(one, one)

    def test_one_ring(self):
        self.check_unlike(MIXED, MIXED[:2] + (MIXED[2] + 1,))
        self.check_unlike(NOTHING, ((), (), 1))
        self.check_unlike(((), (), BIG), ((), (), BIG - 1))

    def test_one_piece_more(self):
        self.check_unlike(NOTHING, wheel(1))
        self.check_unlike(wheel(4), wheel(5))
        self.check_unlike(beside_all([wheel(2)] * 3), beside_all([wheel(2)] * 4))

    def test_a_rim_more(self):
        self.check_unlike(NOTHING, ((), (((0, 0), (0, 1)),), 0))

    def test_of_unlike_stocks(self):
        short = made({"arm": 1}, [(1, "arm")], [((1, 0), (1, 1))])
        other = made({"arm": 3}, [(1, "arm")], [((1, 0), (1, 1)), ((1, 2), (1, 3))])
        self.check_unlike(short, other)


class MuchLikeness(TellingCase):
    def test_wheels(self):
        source = random.Random(24)
        for count in (1, 2, 3, 5, 12):
            for again in range(5):
                self.check_alike(wheel(count), tossed_numbers(source, wheel(count))[0])

    def test_two_wheels_beside_one_twice_as_long(self):
        for count in (1, 2, 3, 6, 10):
            self.check_unlike(beside_all([wheel(count)] * 2), wheel(2 * count))
        self.check_unlike(beside_all([wheel(2), wheel(4)]), beside_all([wheel(3), wheel(3)]))
        self.check_alike(beside_all([wheel(2), wheel(4)]), beside_all([wheel(4), wheel(2)]))

    def test_wheels_with_one_other_name(self):
        source = random.Random(25)
        found = []
        for place in range(1, 7):
            net = wheel(6)
            net = (tuple((n, "leg" if n == place else name) for n, name in net[0]),) + net[1:]
            self.check_alike(net, tossed_numbers(source, net)[0])
            found.append(told(net))
        self.assertEqual(len(set(found)), 1)

    def test_wheels_with_two_other_names(self):
        # What counts is how far apart the two stand, one way round or the other.
        found = {}
        for one, other in itertools.combinations(range(8), 2):
            net = wheel(8)
            names = tuple((n, "leg" if n - 1 in (one, other) else name) for n, name in net[0])
            distance = min(other - one, 8 - other + one)
            found.setdefault(distance, set()).add(told((names,) + net[1:]))
        self.assertEqual([len(nets) for nets in found.values()], [1] * 4)
        self.assertEqual(len(set.union(*found.values())), 4)

    def test_rows(self):
        source = random.Random(26)
        for count in (0, 1, 2, 9):
            self.check_alike(row(count), tossed_numbers(source, row(count))[0])
            self.check_unlike(row(count), row(count + 1))

    def test_many_equal_parts(self):
        source = random.Random(27)
        for net in (beside_all([wheel(3)] * 8), beside_all([row(2)] * 6), beside_all([wheel(1)] * 20)):
            for again in range(4):
                self.check_alike(net, tossed_numbers(source, net)[0])
        self.check_unlike(beside_all([wheel(3)] * 8), beside_all([wheel(3)] * 6 + [wheel(6)]))
        self.check_unlike(beside_all([wheel(3)] * 4), beside_all([wheel(3)] * 3 + [wheel(3, "leg")]))

    def test_looms_all_of_one_look(self):
        source = random.Random(28)
        found = set()
        for turn in range(30):
            net = looms(source, 6)
            self.check_alike(net, tossed_numbers(source, net)[0])
            found.add(told(net))
        self.assertGreater(len(found), 20)

    def test_looms_against_all_ways_tried(self):
        source = random.Random(29)
        counts = {True: 0, False: 0}
        for turn in range(40):
            one = looms(source, 2)
            other = looms(source, 2)
            known = slowly_alike(one, other)
            counts[known] += 1
            self.assertEqual(alike(one, other) is not None, known)
        self.assertGreater(min(counts.values()), 3)


class FourHundredPieces(TellingCase):
    def check_within_seconds(self, net, seconds=15):
        other = tossed_numbers(random.Random(30), net)[0]
        begin = time.monotonic()
        pairs = alike(net, other)
        self.assertEqual(told(net), told(other))
        self.assertLess(time.monotonic() - begin, seconds)
        leads(self, net, other, pairs)
        return other

    def test_a_wheel(self):
        self.check_within_seconds(wheel(400))
        self.check_unlike(wheel(400), beside_all([wheel(200)] * 2))

    def test_a_row(self):
        self.check_within_seconds(row(397))

    def test_many_equal_parts(self):
        for count in (1, 2, 4, 20, 100):
            self.check_within_seconds(beside_all([wheel(count)] * (400 // count)))
        self.check_unlike(beside_all([wheel(2)] * 200), beside_all([wheel(2)] * 198 + [wheel(4)]))

    def test_pieces_with_the_most_hooks(self):
        net = looms(random.Random(31), 400)
        other = self.check_within_seconds(net)
        self.check_unlike(other[:2] + (1,), net)

    def test_a_loom_that_is_the_same_from_everywhere(self):
        ties = [((n, hook), ((n + step) % 400 + 1, hook + 1)) for n in range(1, 401) for hook, step in ((1, 0), (3, 6), (5, 12))]
        net = made(STOCK, [(n, "hand") for n in range(1, 401)], ties + [((n, 0), (n + 200, 0)) for n in range(1, 201)])
        self.check_within_seconds(net)

    def test_every_piece_at_the_rim(self):
        net = made(STOCK, [(n, "dot") for n in range(1, 401)], [((n, 0), (0, n * 3 % 401 - 1)) for n in range(1, 401)])
        self.assertEqual(rim(net), 400)
        self.check_within_seconds(net)


if __name__ == "__main__":
    unittest.main()
