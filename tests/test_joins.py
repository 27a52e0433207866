import itertools
import random
import unittest

from hookmill.errors import NoEnd
from hookmill.joins import beside, hooked
from hookmill.nets import greatest, is_net, made, mate, rim
from helper import BIG, NOTHING, STOCK, some_net

ONE = made(STOCK, [(2, "arm"), (5, "dot")], [((2, 0), (5, 0)), ((2, 1), (0, 0))], 2)
OTHER = made(STOCK, [(1, "fork"), (4, "dot")], [((1, 0), (0, 1)), ((1, 1), (4, 0)), ((1, 2), (0, 0)), ((0, 2), (0, 3))], 3)


class Beside(unittest.TestCase):
    def test_numbers_rim_ends_and_rings(self):
        self.assertEqual(beside(ONE, OTHER), (
            ((2, "arm"), (5, "dot"), (6, "fork"), (9, "dot")),
            (((0, 0), (2, 1)), ((0, 1), (6, 2)), ((0, 2), (6, 0)), ((0, 3), (0, 4)), ((2, 0), (5, 0)), ((6, 1), (9, 0))),
            5,
        ))

    def test_the_other_way_round(self):
        self.assertEqual(beside(OTHER, ONE), (
            ((1, "fork"), (4, "dot"), (6, "arm"), (9, "dot")),
            (((0, 0), (1, 2)), ((0, 1), (1, 0)), ((0, 2), (0, 3)), ((0, 4), (6, 1)), ((1, 1), (4, 0)), ((6, 0), (9, 0))),
            5,
        ))

    def test_the_net_of_nothing_on_either_side(self):
        for net in (ONE, OTHER, NOTHING):
            self.assertEqual(beside(net, NOTHING), net)
            self.assertEqual(beside(NOTHING, net), net)

    def test_rings_alone(self):
        self.assertEqual(beside(((), (), 2), ((), (), 3)), ((), (), 5))
        self.assertEqual(beside(((), (), 2), ONE), ONE[:2] + (4,))

    def test_with_itself(self):
        net = beside(ONE, ONE)
        self.assertEqual(net[0], ((2, "arm"), (5, "dot"), (7, "arm"), (10, "dot")))
        self.assertEqual(net[1], (((0, 0), (2, 1)), ((0, 1), (7, 1)), ((2, 0), (5, 0)), ((7, 0), (10, 0))))
        self.assertEqual(net[2], 4)

    def test_rim_ends_move_without_pieces(self):
        bow = ((), (((0, 0), (0, 1)),), 0)
        self.assertEqual(beside(bow, bow), ((), (((0, 0), (0, 1)), ((0, 2), (0, 3))), 0))

    def test_pieces_move_without_rim_ends(self):
        pair = made(STOCK, [(3, "dot"), (8, "dot")], [((3, 0), (8, 0))])
        self.assertEqual(beside(pair, pair)[1], (((3, 0), (8, 0)), ((11, 0), (16, 0))))

    def test_sixty_figures(self):
        net = made(STOCK, [(BIG, "dot")], [((BIG, 0), (0, 0))], BIG)
        self.assertEqual(beside(net, net), (
            ((BIG, "dot"), (2 * BIG, "dot")), (((0, 0), (BIG, 0)), ((0, 1), (2 * BIG, 0))), 2 * BIG))

    def test_it_is_a_net_in_form_and_in_threes_the_same(self):
        source = random.Random(8)
        for turn in range(60):
            one, other, third = some_net(source, 3), some_net(source, 5), some_net(source, source.randrange(4))
            both = beside(one, other)
            self.assertTrue(is_net(STOCK, both))
            self.assertEqual(rim(both), rim(one) + rim(other))
            self.assertEqual(greatest(both), greatest(one) + greatest(other))
            self.assertEqual(beside(both, third), beside(one, beside(other, third)))


class Hooked(unittest.TestCase):
    def both_ways(self, net, k, l, behind):
        self.assertEqual(hooked(net, k, l), behind)
        self.assertEqual(hooked(net, l, k), behind)

    def test_both_tied_to_pieces(self):
        net = made(STOCK, [(1, "dot"), (2, "dot")], [((0, 0), (2, 0)), ((0, 1), (1, 0))])
        self.both_ways(net, 0, 1, (((1, "dot"), (2, "dot")), (((1, 0), (2, 0)),), 0))

    def test_both_tied_to_one_piece(self):
        net = made(STOCK, [(1, "arm")], [((0, 0), (1, 1)), ((0, 1), (1, 0))])
        self.both_ways(net, 0, 1, (((1, "arm"),), (((1, 0), (1, 1)),), 0))

    def test_one_tied_to_a_rim_end(self):
        net = made(STOCK, [(1, "dot")], [((0, 0), (1, 0)), ((0, 1), (0, 2))])
        self.both_ways(net, 0, 1, (((1, "dot"),), (((0, 0), (1, 0)),), 0))
        self.both_ways(net, 0, 2, (((1, "dot"),), (((0, 0), (1, 0)),), 0))

    def test_both_tied_to_other_rim_ends(self):
        net = made(STOCK, [], [((0, 0), (0, 2)), ((0, 1), (0, 3))])
        for k, l in ((0, 1), (0, 3), (2, 1), (2, 3)):
            self.both_ways(net, k, l, ((), (((0, 0), (0, 1)),), 0))

    def test_tied_to_each_other(self):
        self.both_ways(((), (((0, 0), (0, 1)),), 0), 0, 1, ((), (), 1))
        self.both_ways(((), (((0, 0), (0, 1)),), BIG), 0, 1, ((), (), BIG + 1))
        self.both_ways(OTHER, 2, 3, (OTHER[0], (((0, 0), (1, 2)), ((0, 1), (1, 0)), ((1, 1), (4, 0))), 4))

    def test_rings_stay_where_none_comes(self):
        self.assertEqual(hooked(OTHER, 0, 1)[2], 3)

    def test_rim_ends_left_are_numbered_anew(self):
        net = made(STOCK, [(1, "hand")], [((1, hook), (0, hook)) for hook in range(7)])
        behind = (((0, 0), (1, 0)), ((0, 1), (1, 2)), ((0, 2), (1, 3)), ((0, 3), (1, 5)), ((0, 4), (1, 6)), ((1, 1), (1, 4)))
        self.both_ways(net, 1, 4, (((1, "hand"),), behind, 0))
        for k, l in itertools.combinations(range(7), 2):
            left = [hook for hook in range(7) if hook not in (k, l)]
            ties = [((0, place), (1, hook)) for place, hook in enumerate(left)] + [((1, k), (1, l))]
            self.both_ways(net, k, l, (((1, "hand"),), tuple(ties), 0))

    def test_of_nets_at_a_toss(self):
        source = random.Random(9)
        for turn in range(120):
            net = some_net(source, source.randrange(5))
            k, l = source.sample(range(rim(net)), 2)
            self.check_one(net, k, l)

    def check_one(self, net, k, l):
        behind = hooked(net, k, l)
        self.assertTrue(is_net(STOCK, behind))
        self.assertEqual(behind, hooked(net, l, k))
        self.assertEqual(behind[0], net[0])
        left = [place for place in range(rim(net)) if place not in (k, l)]
        anew = {(0, place): (0, count) for count, place in enumerate(left)}
        was, there = mate(net, (0, k)), mate(net, (0, l))
        closed = was == (0, l)
        self.assertEqual(behind[2], net[2] + (1 if closed else 0))
        if not closed:
            self.assertEqual(mate(behind, anew.get(was, was)), anew.get(there, there))
        for one, other in net[1]:
            if not {one, other} & {(0, k), (0, l)}:
                self.assertEqual(mate(behind, anew.get(one, one)), anew.get(other, other))

    def test_what_is_no_rim_end(self):
        for k, l in ((0, 4), (4, 0), (0, -1), (-1, 0), (4, 5), (-1, -2), (0, BIG), (10 ** 5000, 0)):
            with self.assertRaises(NoEnd):
                hooked(OTHER, k, l)

    def test_a_net_without_rim_ends(self):
        for k, l in ((0, 1), (0, 0)):
            with self.assertRaises(NoEnd):
                hooked(NOTHING, k, l)

    def test_with_itself(self):
        for k in range(4):
            with self.assertRaises(NoEnd):
                hooked(OTHER, k, k)
        with self.assertRaises(NoEnd):
            hooked(OTHER, 4, 4)

    def test_what_is_no_number(self):
        for k, l in ((True, 0), (0, True), (None, 0), (0, "1"), (0, (0, 1))):
            with self.assertRaises(NoEnd):
                hooked(OTHER, k, l)

    def test_by_name(self):
        self.assertEqual(hooked(net=((), (((0, 0), (0, 1)),), 0), k=0, l=1), ((), (), 1))
        self.assertEqual(beside(one=ONE, other=NOTHING), ONE)


class SeveralPairs(unittest.TestCase):
    def hooked_all(self, net, pairs):
        """Pairs told by the numbers of the first net, hooked one after another."""
        left = list(range(rim(net)))
        for k, l in pairs:
            net = hooked(net, left.index(k), left.index(l))
            left = [place for place in left if place not in (k, l)]
        return net

    def check(self, net, pairs):
        behind = self.hooked_all(net, pairs)
        for order in itertools.permutations(pairs):
            self.assertEqual(self.hooked_all(net, order), behind)
        self.assertEqual(self.hooked_all(net, [(l, k) for k, l in pairs]), behind)
        return behind

    def test_three_pairs_that_close_one_ring(self):
        net = ((), (((0, 0), (0, 5)), ((0, 1), (0, 2)), ((0, 3), (0, 4))), 0)
        self.assertEqual(self.check(net, [(0, 1), (2, 3), (4, 5)]), ((), (), 1))

    def test_three_pairs_that_close_three_rings(self):
        net = ((), (((0, 0), (0, 5)), ((0, 1), (0, 2)), ((0, 3), (0, 4))), 0)
        self.assertEqual(self.check(net, [(5, 0), (2, 1), (3, 4)]), ((), (), 3))

    def test_two_nets_hooked_to_each_other(self):
        both = beside(ONE, OTHER)
        behind = self.check(both, [(0, 2), (1, 3)])
        self.assertEqual(behind, (
            ((2, "arm"), (5, "dot"), (6, "fork"), (9, "dot")),
            (((0, 0), (6, 2)), ((2, 0), (5, 0)), ((2, 1), (6, 0)), ((6, 1), (9, 0))),
            5,
        ))

    def test_of_nets_at_a_toss(self):
        source = random.Random(10)
        for turn in range(40):
            net = some_net(source, source.randrange(5))
            places = list(range(rim(net)))
            source.shuffle(places)
            self.check(net, list(zip(places[::2], places[1::2]))[:4])


if __name__ == "__main__":
    unittest.main()
