import copy
import itertools
import unittest

from hookmill.errors import NoEnd, NoNet
from hookmill.nets import greatest, is_net, live, made, mate, rim

STOCK = {"dot": 0, "arm": 1, "fork": 2, "hand": 6}
NOTHING = ((), (), 0)
BIG = 10 ** 60 - 1

# Two forks by their chief hooks, a dot and three rim ends; numbers with gaps between them.
PIECES = [(3, "fork"), (7, "fork"), (12, "dot")]
TIES = [((3, 0), (7, 0)), ((0, 0), (3, 1)), ((0, 1), (3, 2)), ((7, 1), (12, 0)), ((0, 2), (7, 2))]
NET = (
    ((3, "fork"), (7, "fork"), (12, "dot")),
    (((0, 0), (3, 1)), ((0, 1), (3, 2)), ((0, 2), (7, 2)), ((3, 0), (7, 0)), ((7, 1), (12, 0))),
    0,
)


def flipped(ties, places):
    return [(tie[1], tie[0]) if flip else tie for tie, flip in zip(ties, places)]


class Made(unittest.TestCase):
    def test_told_in_form(self):
        self.assertEqual(made(STOCK, PIECES, TIES), NET)

    def test_any_order_of_pieces(self):
        for pieces in itertools.permutations(PIECES):
            self.assertEqual(made(STOCK, list(pieces), TIES), NET)

    def test_any_order_of_ties(self):
        for ties in itertools.permutations(TIES):
            self.assertEqual(made(STOCK, PIECES, list(ties)), NET)

    def test_each_tie_either_way_round(self):
        for places in itertools.product((False, True), repeat=len(TIES)):
            self.assertEqual(made(STOCK, PIECES, flipped(TIES, places)), NET)

    def test_it_is_tuples_all_through(self):
        net = made(STOCK, PIECES, TIES)
        self.assertIsInstance(net, tuple)
        self.assertIsInstance(net[0], tuple)
        self.assertIsInstance(net[1], tuple)
        for row in net[0] + net[1]:
            self.assertIsInstance(row, tuple)

    def test_ends_are_ordered_by_number_not_as_texts(self):
        net = made(STOCK, [(10, "dot"), (9, "dot")], [((10, 0), (9, 0))])
        self.assertEqual(net, (((9, "dot"), (10, "dot")), (((9, 0), (10, 0)),), 0))

    def test_ends_are_ordered_by_first_then_second(self):
        ties = [((0, 1), (1, 0)), ((1, 1), (0, 0))]
        self.assertEqual(made(STOCK, [(1, "arm")], ties)[1], (((0, 0), (1, 1)), ((0, 1), (1, 0))))

    def test_a_piece_tied_to_itself(self):
        net = made(STOCK, [(4, "arm")], [((4, 1), (4, 0))])
        self.assertEqual(net, (((4, "arm"),), (((4, 0), (4, 1)),), 0))

    def test_a_piece_with_six_side_hooks(self):
        ties = [((1, hook), (0, 6 - hook)) for hook in range(7)]
        net = made(STOCK, [(1, "hand")], ties)
        self.assertEqual(net[1], tuple(((0, k), (1, 6 - k)) for k in range(7)))

    def test_rim_ends_alone(self):
        net = made(STOCK, [], [((0, 3), (0, 0)), ((0, 2), (0, 1))])
        self.assertEqual(net, ((), (((0, 0), (0, 3)), ((0, 1), (0, 2))), 0))

    def test_rings(self):
        self.assertEqual(made(STOCK, PIECES, TIES)[2], 0)
        self.assertEqual(made(STOCK, PIECES, TIES, 5), NET[:2] + (5,))
        self.assertEqual(made(STOCK, PIECES, TIES, rings=2), NET[:2] + (2,))
        self.assertEqual(made(STOCK, [], [], 0), NOTHING)

    def test_all_by_name(self):
        self.assertEqual(made(stock=STOCK, pieces=PIECES, ties=TIES, rings=1), NET[:2] + (1,))

    def test_the_net_of_nothing(self):
        self.assertEqual(made(STOCK, [], []), NOTHING)
        self.assertEqual(made({}, [], []), NOTHING)
        self.assertEqual(made({}, [], [], 3), ((), (), 3))

    def test_a_stock_of_no_name_has_nets_of_rim_ends(self):
        self.assertEqual(made({}, [], [((0, 1), (0, 0))]), ((), (((0, 0), (0, 1)),), 0))

    def test_sixty_figures(self):
        net = made(STOCK, [(BIG, "dot"), (BIG - 1, "dot")], [((BIG, 0), (BIG - 1, 0))], BIG)
        self.assertEqual(net, (((BIG - 1, "dot"), (BIG, "dot")), (((BIG - 1, 0), (BIG, 0)),), BIG))
        self.assertTrue(is_net(STOCK, net))

    def test_what_is_handed_in_stays(self):
        stock = dict(STOCK)
        pieces = list(reversed(PIECES))
        ties = flipped(TIES, [True] * len(TIES))
        ahead = copy.deepcopy((stock, pieces, ties))
        net = made(stock, pieces, ties)
        self.assertEqual((stock, pieces, ties), ahead)
        self.assertEqual(list(stock), list(STOCK))
        stock.clear()
        pieces.clear()
        ties.clear()
        self.assertEqual(net, NET)

    def test_what_is_refused_stays_too(self):
        pieces = [(7, "fork"), (3, "fork")]
        ties = [((7, 0), (3, 0))]
        ahead = copy.deepcopy((pieces, ties))
        with self.assertRaises(NoNet):
            made(STOCK, pieces, ties)
        self.assertEqual((pieces, ties), ahead)

    def test_four_hundred_pieces(self):
        # Pairs of hands, hook to hook.
        pieces = [(n, "hand") for n in range(400, 0, -1)]
        ties = [((n + 1, hook), (n, hook)) for n in range(1, 400, 2) for hook in range(7)]
        net = made(STOCK, pieces, ties)
        self.assertTrue(is_net(STOCK, net))
        self.assertEqual(live(net), [(n, n + 1) for n in range(1, 400, 2)])


# Each row: what is wrong, pieces, ties, rings.
FAULTS = [
    ("a number of 0", [(0, "dot")], [((0, 0), (0, 1))], 0),
    ("a number of 0, its hook tied like a piece's", [(0, "dot"), (1, "dot")], [((0, 0), (1, 0))], 0),
    ("a number below 0", [(-1, "dot")], [((-1, 0), (0, 0))], 0),
    ("a number told twice", [(1, "dot"), (1, "dot")], [((1, 0), (0, 0))], 0),
    ("a number told twice, names unlike", [(1, "dot"), (1, "arm")], [((0, 0), (1, 0)), ((0, 1), (1, 1))], 0),
    ("a number told twice, names unlike, the lesser last", [(1, "arm"), (1, "dot")], [((0, 0), (1, 0))], 0),
    ("a name that the stock does not have", [(1, "nut")], [((0, 0), (1, 0))], 0),
    ("a name without signs", [(1, "")], [((0, 0), (1, 0))], 0),
    ("a hook in two ties", [(1, "dot")], [((0, 0), (1, 0)), ((0, 1), (1, 0))], 0),
    ("a hook in two ties, all counts right", [(1, "arm")], [((0, 0), (1, 0)), ((0, 1), (1, 0))], 0),
    ("a hook twice in one tie", [(1, "dot")], [((1, 0), (1, 0))], 0),
    ("a hook twice in one tie, all counts right", [(1, "arm")], [((1, 0), (1, 0))], 0),
    ("a rim end in two ties", [(1, "arm")], [((0, 0), (1, 0)), ((0, 0), (1, 1))], 0),
    ("a rim end twice in one tie", [], [((0, 0), (0, 0))], 0),
    ("a tie told twice", [(1, "dot")], [((0, 0), (1, 0)), ((0, 0), (1, 0))], 0),
    ("a tie told both ways", [(1, "dot")], [((0, 0), (1, 0)), ((1, 0), (0, 0))], 0),
    ("a chief hook that stands nowhere", [(1, "dot")], [], 0),
    ("a side hook that stands nowhere", [(1, "arm")], [((0, 0), (1, 0))], 0),
    ("all hooks of one piece stand nowhere", [(1, "dot"), (2, "arm")], [((0, 0), (1, 0))], 0),
    ("a gap at rim end 0", [(1, "dot")], [((0, 1), (1, 0))], 0),
    ("a gap within the rim", [(1, "arm")], [((0, 0), (1, 0)), ((0, 2), (1, 1))], 0),
    ("a gap between rim ends alone", [], [((0, 0), (0, 2))], 0),
    ("a rim end of sixty figures", [(1, "dot")], [((0, BIG), (1, 0))], 0),
    ("a hook behind the last one", [(1, "dot")], [((0, 0), (1, 0)), ((0, 1), (1, 1))], 0),
    ("a hook behind the last one, all counts right", [(1, "dot")], [((0, 0), (1, 1))], 0),
    ("a hook below 0", [(1, "dot")], [((0, 0), (1, 0)), ((0, 1), (1, -1))], 0),
    ("a hook below 0, all counts right", [(1, "dot")], [((0, 0), (1, -1))], 0),
    ("a piece that is not there", [(1, "dot")], [((1, 0), (2, 0))], 0),
    ("a piece that is not there, and no other", [], [((0, 0), (1, 0))], 0),
    ("a piece below 0 that is not there", [], [((-1, 0), (0, 0))], 0),
    ("a rim end below 0", [(1, "dot")], [((0, -1), (1, 0))], 0),
    ("a rim end below 0 beside others", [], [((0, -1), (0, 0))], 0),
    ("rings below 0", [(1, "dot")], [((0, 0), (1, 0))], -1),
    ("rings below 0 in the net of nothing", [], [], -BIG),
]


class Refused(unittest.TestCase):
    def test_each_fault_is_refused(self):
        for fault, pieces, ties, rings in FAULTS:
            with self.subTest(fault=fault):
                with self.assertRaises(NoNet):
                    made(STOCK, pieces, ties, rings)

    def test_each_fault_is_refused_beside_what_is_right(self):
        for fault, pieces, ties, rings in FAULTS:
            with self.subTest(fault=fault):
                with self.assertRaises(NoNet):
                    made(STOCK, [(90, "dot"), (91, "dot")] + pieces, [((90, 0), (91, 0))] + ties, rings)

    def test_the_other_way_round_too(self):
        for fault, pieces, ties, rings in FAULTS:
            with self.subTest(fault=fault):
                with self.assertRaises(NoNet):
                    made(STOCK, pieces[::-1], flipped(ties[::-1], [True] * len(ties)), rings)

    def test_a_piece_of_a_stock_of_no_name(self):
        with self.assertRaises(NoNet):
            made({}, [(1, "dot")], [((0, 0), (1, 0))])

    def test_ends_of_very_many_figures(self):
        for end in ((0, 10 ** 5000), (10 ** 5000, 0), (1, 10 ** 5000)):
            with self.assertRaises(NoNet):
                made(STOCK, [(1, "arm")], [((1, 0), end)])


class IsNet(unittest.TestCase):
    def test_nets_in_form(self):
        ring = ((), (((0, 0), (0, 1)),), 4)
        loop = (((4, "arm"),), (((4, 0), (4, 1)),), 0)
        for net in (NET, NOTHING, ring, loop):
            with self.subTest(net=net):
                self.assertIs(is_net(STOCK, net), True)

    def test_the_net_of_nothing_of_a_stock_of_no_name(self):
        self.assertIs(is_net({}, NOTHING), True)

    def test_every_other_order_of_pieces(self):
        for pieces in itertools.permutations(NET[0]):
            if pieces != NET[0]:
                self.assertIs(is_net(STOCK, (pieces, NET[1], 0)), False)

    def test_every_other_order_of_ties(self):
        for ties in itertools.permutations(NET[1]):
            if ties != NET[1]:
                self.assertIs(is_net(STOCK, (NET[0], ties, 0)), False)

    def test_a_tie_with_the_greater_end_first(self):
        for places in itertools.product((False, True), repeat=len(NET[1])):
            if any(places):
                self.assertIs(is_net(STOCK, (NET[0], tuple(flipped(NET[1], places)), 0)), False)

    def test_each_fault(self):
        for fault, pieces, ties, rings in FAULTS:
            with self.subTest(fault=fault):
                ordered = tuple(sorted(tuple(sorted(tie)) for tie in ties))
                self.assertIs(is_net(STOCK, (tuple(sorted(pieces)), ordered, rings)), False)

    def test_of_another_stock(self):
        self.assertIs(is_net({}, NET), False)
        self.assertIs(is_net({"dot": 0, "fork": 1}, NET), False)
        self.assertIs(is_net({"dot": 0, "fork": 3}, NET), False)
        self.assertIs(is_net({"dot": 0, "fork": 2}, NET), True)

    def test_what_is_handed_in_stays(self):
        stock = dict(STOCK)
        is_net(stock, NET)
        self.assertEqual(stock, STOCK)


class Rim(unittest.TestCase):
    def test_ordinary(self):
        self.assertEqual(rim(NET), 3)

    def test_without_pieces(self):
        self.assertEqual(rim(NOTHING), 0)
        self.assertEqual(rim(((), (), 9)), 0)
        self.assertEqual(rim(((), (((0, 0), (0, 3)), ((0, 1), (0, 2))), 0)), 4)

    def test_without_rim_ends(self):
        self.assertEqual(rim((((1, "dot"), (2, "dot")), (((1, 0), (2, 0)),), 0)), 0)

    def test_tied_to_a_piece_and_to_each_other(self):
        net = made(STOCK, [(1, "dot")], [((0, 0), (0, 2)), ((0, 1), (1, 0))])
        self.assertEqual(rim(net), 3)


class Greatest(unittest.TestCase):
    def test_ordinary(self):
        self.assertEqual(greatest(NET), 12)
        self.assertEqual(greatest((((5, "dot"),), (((0, 0), (5, 0)),), 0)), 5)

    def test_without_pieces(self):
        self.assertEqual(greatest(NOTHING), 0)
        self.assertEqual(greatest(((), (((0, 0), (0, 1)),), 7)), 0)

    def test_sixty_figures(self):
        self.assertEqual(greatest((((2, "dot"), (BIG, "dot")), (((2, 0), (BIG, 0)),), 0)), BIG)


class Mate(unittest.TestCase):
    def test_every_end_both_ways(self):
        for one, other in NET[1]:
            self.assertEqual(mate(NET, one), other)
            self.assertEqual(mate(NET, other), one)

    def test_within_a_piece_and_within_the_rim(self):
        net = made(STOCK, [(4, "arm")], [((4, 0), (4, 1)), ((0, 0), (0, 1))])
        self.assertEqual(mate(net, (4, 0)), (4, 1))
        self.assertEqual(mate(net, (4, 1)), (4, 0))
        self.assertEqual(mate(net, (0, 0)), (0, 1))
        self.assertEqual(mate(net, (0, 1)), (0, 0))

    def test_no_end_of_the_net(self):
        wrong = [(0, 3), (0, -1), (3, 3), (3, -1), (12, 1), (4, 0), (1, 0), (-3, 0), (0, BIG), (BIG, 0), (3, 10 ** 5000)]
        for end in wrong:
            with self.subTest(end=end):
                with self.assertRaises(NoEnd):
                    mate(NET, end)

    def test_of_the_net_of_nothing(self):
        for end in ((0, 0), (1, 0)):
            with self.assertRaises(NoEnd):
                mate(NOTHING, end)

    def test_what_is_no_end_at_all(self):
        for thing in (None, 3, "end", (), (3,), (3, 0, 0), [3, 0], (3, "0"), (3, False), (True, 0), ((3, 0), (7, 0))):
            with self.subTest(thing=thing):
                with self.assertRaises(NoEnd):
                    mate(NET, thing)

    def test_truths_are_no_numbers_where_they_equal_an_end(self):
        net = made(STOCK, [(1, "arm")], [((0, 0), (1, 0)), ((0, 1), (1, 1))])
        for end in ((True, False), (1, True), (False, 1)):
            with self.assertRaises(NoEnd):
                mate(net, end)


class Live(unittest.TestCase):
    def test_ordinary(self):
        self.assertEqual(live(NET), [(3, 7)])

    def test_without_pieces(self):
        self.assertEqual(live(NOTHING), [])
        self.assertEqual(live(((), (((0, 0), (0, 1)),), 1)), [])

    def test_without_rim_ends(self):
        self.assertEqual(live(made(STOCK, [(2, "dot"), (5, "dot")], [((5, 0), (2, 0))])), [(2, 5)])

    def test_chief_hooks_of_both_alone(self):
        # A chief hook tied to a rim end, to a side hook, to its own piece: none of these is live.
        self.assertEqual(live(made(STOCK, [(1, "dot")], [((0, 0), (1, 0))])), [])
        self.assertEqual(live(made(STOCK, [(1, "dot"), (2, "arm")], [((1, 0), (2, 1)), ((0, 0), (2, 0))])), [])
        self.assertEqual(live(made(STOCK, [(1, "arm"), (2, "dot")], [((1, 1), (2, 0)), ((0, 0), (1, 0))])), [])
        self.assertEqual(live(made(STOCK, [(1, "arm")], [((1, 0), (1, 1))])), [])
        self.assertEqual(live(made(STOCK, [(1, "arm"), (2, "arm")], [((1, 1), (2, 1)), ((1, 0), (0, 0)), ((2, 0), (0, 1))])), [])

    def test_rising(self):
        pieces = [(n, "dot") for n in (1, 2, 3, 9, 10, 11)]
        ties = [((11, 0), (2, 0)), ((9, 0), (1, 0)), ((10, 0), (3, 0))]
        self.assertEqual(live(made(STOCK, pieces, ties)), [(1, 9), (2, 11), (3, 10)])

    def test_the_list_is_the_askers_own(self):
        told = live(NET)
        told.append((1, 2))
        told[0] = None
        self.assertEqual(live(NET), [(3, 7)])
        self.assertIsNot(live(NET), live(NET))


if __name__ == "__main__":
    unittest.main()
