import itertools
import random
import unittest

from hookmill.books import Book, turned
from hookmill.errors import MillError, NoPair, Stuck
from hookmill.meeting import met
from hookmill.nets import greatest, is_net, live, made, rim
from hookmill.telling import alike
from helper import BIG, NOTHING, STOCK, lively_net, some_rules, tossed_numbers

SMALL = {"dot": 0, "arm": 1, "leg": 1, "fork": 2, "tri": 3}
BOW = ((), (((0, 0), (0, 1)),), 0)
CROSS = ((), (((0, 0), (0, 2)), ((0, 1), (0, 3))), 0)
APART = ((), (((0, 0), (0, 1)), ((0, 2), (0, 3))), 0)


def slowly_met(book, net, a, b):
    """The meeting by points and stretches between them: every tie is walked from end to end, what is left is rings."""
    names = dict(net[0])
    one, other = min(a, b), max(a, b)
    rule = book.rule_for(names[one], names[other])
    new = {number: greatest(net) + place for place, (number, name) in enumerate(rule[0], 1)}
    hooks = [(one, hook) for hook in range(1, book.sides_of(names[one]) + 1)]
    hooks += [(other, hook) for hook in range(1, book.sides_of(names[other]) + 1)]
    spots = {hook: ("spot", place) for place, hook in enumerate(hooks)}
    stretches = [[spots.get(end, end) for end in tie] for tie in net[1] if set(tie) != {(one, 0), (other, 0)}]
    for tie in rule[1]:
        stretches.append([("spot", hook) if number == 0 else (new[number], hook) for number, hook in tie])
    ties, rings = [], net[2] + rule[2]
    while stretches:
        way = stretches.pop()
        while way[-1][0] == "spot" or way[0][0] == "spot":
            if way[-1][0] != "spot":
                way.reverse()
            if way[0] == way[-1]:
                break
            index = next(place for place, stretch in enumerate(stretches) if way[-1] in stretch)
            near, far = stretches.pop(index)
            way.append(far if near == way[-1] else near)
        if way[0] == way[-1]:
            rings += 1
        else:
            ties.append(tuple(sorted((way[0], way[-1]))))
    pieces = [piece for piece in net[0] if piece[0] not in (a, b)] + [(new[number], name) for number, name in rule[0]]
    return (tuple(sorted(pieces)), tuple(sorted(ties)), rings), sorted(new.values())


class MeetingCase(unittest.TestCase):
    def both_ways(self, book, net, a, b, behind):
        self.assertEqual(met(book, net, a, b), behind)
        self.assertEqual(met(book, net, b, a), behind)


class Met(MeetingCase):
    def test_two_dots_go(self):
        net = made(STOCK, [(3, "dot"), (5, "dot"), (9, "dot")], [((3, 0), (5, 0)), ((9, 0), (0, 0))], 4)
        self.both_ways(Book(STOCK, [("dot", "dot", NOTHING)]), net, 3, 5, ((((9, "dot"),), (((0, 0), (9, 0)),), 4), []))

    def test_side_hooks_and_rim_ends(self):
        # The fork's side hooks are tied to a dot and to rim end 0, the arm's to rim end 1.
        rule = made(STOCK, [(4, "fork")], [((4, 0), (0, 0)), ((4, 1), (0, 2)), ((4, 2), (0, 1))], 2)
        net = made(STOCK, [(1, "arm"), (2, "dot"), (8, "fork")], [
            ((1, 0), (8, 0)), ((8, 1), (2, 0)), ((8, 2), (0, 0)), ((1, 1), (0, 1))], 1)
        book = Book(STOCK, [("fork", "arm", rule)])
        self.both_ways(book, net, 1, 8, (
            (((2, "dot"), (9, "fork")), (((0, 0), (9, 2)), ((0, 1), (9, 1)), ((2, 0), (9, 0))), 3), [9]))
        self.both_ways(Book(STOCK, [("arm", "fork", turned(rule, 2))]), net, 8, 1, met(book, net, 1, 8))

    def test_numbers_follow_the_greatest_in_the_order_of_the_rules(self):
        rule = made(STOCK, [(10, "arm"), (20, "dot"), (BIG, "leg")], [
            ((10, 0), (0, 0)), ((10, 1), (20, 0)), ((BIG, 0), (0, 1)), ((BIG, 1), (0, 2))])
        net = made(STOCK, [(2, "arm"), (5, "fork"), (70, "dot")], [
            ((2, 0), (5, 0)), ((2, 1), (70, 0)), ((5, 1), (0, 1)), ((5, 2), (0, 0))])
        behind, came = met(Book(STOCK, [("arm", "fork", rule)]), net, 2, 5)
        self.assertEqual(came, [71, 72, 73])
        self.assertEqual(behind, ((
            (70, "dot"), (71, "arm"), (72, "dot"), (73, "leg")),
            (((0, 0), (73, 1)), ((0, 1), (73, 0)), ((70, 0), (71, 0)), ((71, 1), (72, 0))), 0))

    def test_the_greatest_ahead_may_be_one_that_goes(self):
        rule = made(STOCK, [(1, "dot"), (2, "dot")], [((1, 0), (2, 0))])
        net = made(STOCK, [(3, "dot"), (40, "dot")], [((3, 0), (40, 0))])
        self.both_ways(Book(STOCK, [("dot", "dot", rule)]), net, 3, 40, ((
            ((41, "dot"), (42, "dot")), (((41, 0), (42, 0)),), 0), [41, 42]))

    def test_sixty_figures(self):
        rule = made(STOCK, [(BIG, "dot")], [((BIG, 0), (0, 0))], BIG)
        net = made(STOCK, [(BIG - 1, "dot"), (BIG, "arm")], [((BIG - 1, 0), (BIG, 0)), ((BIG, 1), (0, 0))], BIG)
        self.both_ways(Book(STOCK, [("arm", "dot", rule)]), net, BIG, BIG - 1, (
            (((BIG + 1, "dot"),), (((0, 0), (BIG + 1, 0)),), 2 * BIG), [BIG + 1]))

    def test_a_name_with_itself_the_lesser_number_is_the_one(self):
        # Alike with itself turned, but the numbers that come are as the lesser number's being the one has them.
        rule = made(STOCK, [(1, "dot"), (2, "dot")], [((1, 0), (0, 1)), ((2, 0), (0, 0))])
        net = made(STOCK, [(4, "arm"), (6, "arm")], [((4, 0), (6, 0)), ((4, 1), (0, 0)), ((6, 1), (0, 1))])
        self.both_ways(Book(STOCK, [("arm", "arm", rule)]), net, 4, 6, (
            (((7, "dot"), (8, "dot")), (((0, 0), (8, 0)), ((0, 1), (7, 0))), 0), [7, 8]))

    def test_names_either_way_round_and_numbers_either_way_round(self):
        rule = made(STOCK, [(1, "arm")], [((1, 0), (0, 0)), ((1, 1), (0, 1))])
        for arm, leg in ((1, 2), (2, 1)):
            net = made(STOCK, [(arm, "arm"), (leg, "leg")], [((1, 0), (2, 0)), ((arm, 1), (0, 0)), ((leg, 1), (0, 1))])
            behind = ((((3, "arm"),), (((0, 0), (3, 0)), ((0, 1), (3, 1))), 0), [3])
            self.both_ways(Book(STOCK, [("arm", "leg", rule)]), net, 1, 2, behind)
            self.both_ways(Book(STOCK, [("leg", "arm", turned(rule, 1))]), net, 1, 2, behind)


class Stretches(MeetingCase):
    """Ties that come of several stretches, and those that come back on themselves."""

    def forks(self, ties, rule, rings=0):
        """What comes of two forks, their side hooks so tied."""
        net = made(STOCK, [(1, "fork"), (2, "fork")], [((1, 0), (2, 0))] + ties, rings)
        behind = met(Book(STOCK, [("fork", "fork", rule)]), net, 1, 2)
        self.assertEqual(behind, slowly_met(Book(STOCK, [("fork", "fork", rule)]), net, 1, 2))
        return behind[0]

    def test_a_ring_of_two_stretches(self):
        net = made(STOCK, [(1, "arm"), (2, "leg")], [((1, 0), (2, 0)), ((1, 1), (2, 1))])
        self.both_ways(Book(STOCK, [("arm", "leg", BOW)]), net, 1, 2, (((), (), 1), []))

    def test_a_side_hook_tied_to_a_side_hook_of_its_own_piece(self):
        self.assertEqual(self.forks([((1, 1), (1, 2)), ((2, 1), (2, 2))], APART), ((), (), 2))
        self.assertEqual(self.forks([((1, 1), (1, 2)), ((2, 1), (2, 2))], CROSS), ((), (), 1))

    def test_side_hooks_tied_to_each_other(self):
        self.assertEqual(self.forks([((1, 1), (2, 1)), ((1, 2), (2, 2))], CROSS), ((), (), 2))
        self.assertEqual(self.forks([((1, 1), (2, 1)), ((1, 2), (2, 2))], APART), ((), (), 1))
        self.assertEqual(self.forks([((1, 1), (2, 2)), ((1, 2), (2, 1))], CROSS), ((), (), 1))
        self.assertEqual(self.forks([((1, 1), (2, 2)), ((1, 2), (2, 1))], APART, BIG), ((), (), BIG + 1))

    def test_rings_of_the_rule_are_added(self):
        rule = CROSS[:2] + (5,)
        self.assertEqual(self.forks([((1, 1), (2, 1)), ((1, 2), (2, 2))], rule, 7), ((), (), 14))

    def test_side_hooks_tied_to_rim_ends(self):
        ties = [((1, 1), (0, 0)), ((1, 2), (0, 1)), ((2, 1), (0, 2)), ((2, 2), (0, 3))]
        self.assertEqual(self.forks(ties, CROSS), ((), (((0, 0), (0, 2)), ((0, 1), (0, 3))), 0))
        self.assertEqual(self.forks(ties, APART), ((), (((0, 0), (0, 1)), ((0, 2), (0, 3))), 0))

    def test_one_tie_of_many_stretches(self):
        # From rim end 0 through all four spots to rim end 1.
        ties = [((1, 1), (0, 0)), ((1, 2), (2, 1)), ((2, 2), (0, 1))]
        self.assertEqual(self.forks(ties, APART), ((), (((0, 0), (0, 1)),), 0))

    def test_a_tie_and_a_ring_at_once(self):
        ties = [((1, 1), (0, 0)), ((1, 2), (2, 2)), ((2, 1), (0, 1))]
        self.assertEqual(self.forks(ties, CROSS), ((), (((0, 0), (0, 1)),), 1))

    def test_seven_stretches_on_end(self):
        stock = {"hand": 6, "dot": 0}
        pieces = [(1, "hand"), (2, "hand"), (3, "dot"), (4, "dot")]
        # Down and up between the two hands; in the rule side hooks next to each other are tied.
        rule = ((), tuple(((0, k), (0, k + 1)) for k in range(0, 12, 2)), 0)
        ties = [((1, 0), (2, 0)), ((1, 1), (3, 0)), ((1, 2), (2, 1)), ((2, 2), (1, 3)), ((1, 4), (2, 3)), ((2, 4), (1, 5)),
                ((1, 6), (2, 5)), ((2, 6), (4, 0))]
        net = made(stock, pieces, ties)
        book = Book(stock, [("hand", "hand", rule)])
        self.assertEqual(met(book, net, 2, 1), ((((3, "dot"), (4, "dot")), (((3, 0), (4, 0)),), 0), []))

    def test_a_chief_hook_at_the_end_of_a_stretch_makes_a_live_pair(self):
        net = made(STOCK, [(1, "arm"), (2, "leg"), (3, "dot"), (4, "dot")], [((1, 0), (2, 0)), ((1, 1), (3, 0)), ((2, 1), (4, 0))])
        behind, came = met(Book(STOCK, [("arm", "leg", BOW)]), net, 1, 2)
        self.assertEqual(live(behind), [(3, 4)])

    def test_all_ties_of_two_forks_and_all_rules_of_rim_ends(self):
        def matchings(ends):
            if not ends:
                return [[]]
            first, rest = ends[0], ends[1:]
            return [[(first, other)] + more for place, other in enumerate(rest)
                    for more in matchings(rest[:place] + rest[place + 1:])]

        stock = {"fork": 2, "wye": 2}
        for rule_ties in matchings([(0, k) for k in range(4)]):
            book = Book(stock, [("fork", "wye", made(stock, [], rule_ties))])
            for outside in (0, 2, 4):
                for ties in matchings([(1, 1), (1, 2), (2, 1), (2, 2)] + [(0, k) for k in range(outside)]):
                    net = made(stock, [(1, "fork"), (2, "wye")], [((1, 0), (2, 0))] + ties)
                    self.both_ways(book, net, 1, 2, slowly_met(book, net, 1, 2))


class AtAToss(MeetingCase):
    def test_as_stretch_by_stretch(self):
        source = random.Random(51)
        meetings = 0
        for turn in range(120):
            book = Book(SMALL, some_rules(source, SMALL, 0, source.choice((1, 2, 4))))
            net = lively_net(source, source.randrange(2, 12), source.randrange(5), SMALL)
            for a, b in live(net):
                behind, came = slowly_met(book, net, a, b)
                self.both_ways(book, net, a, b, (behind, came))
                self.assertTrue(is_net(SMALL, behind))
                self.assertEqual(rim(behind), rim(net))
                self.assertEqual(came, list(range(greatest(net) + 1, greatest(net) + 1 + len(came))))
                meetings += 1
        self.assertGreater(meetings, 200)

    def test_numbers_of_sixty_figures(self):
        source = random.Random(52)
        book = Book(SMALL, some_rules(source, SMALL, 0, 3))
        for turn in range(30):
            net = tossed_numbers(source, lively_net(source, 8, 2, SMALL))[0]
            for a, b in live(net):
                self.both_ways(book, net, a, b, slowly_met(book, net, a, b))

    def test_two_live_pairs_in_either_order(self):
        source = random.Random(53)
        pairs_seen = 0
        for turn in range(120):
            book = Book(SMALL, some_rules(source, SMALL, 0, source.choice((1, 2, 4))))
            net = lively_net(source, source.randrange(4, 12), source.randrange(4), SMALL)
            for one, other in itertools.combinations(live(net), 2):
                self.assertEqual(len({*one, *other}), 4)
                first = met(book, net, *one)[0]
                second = met(book, net, *other)[0]
                self.assertIn(other, live(first))
                self.assertIn(one, live(second))
                self.assertIsNotNone(alike(met(book, first, *other)[0], met(book, second, *one)[0]))
                pairs_seen += 1
        self.assertGreater(pairs_seen, 200)


class Refused(unittest.TestCase):
    NET = made(STOCK, [(1, "arm"), (2, "leg"), (3, "dot"), (4, "fork"), (5, "fork"), (6, "dot"), (7, "dot")], [
        ((1, 0), (2, 0)), ((1, 1), (2, 1)), ((3, 0), (0, 0)), ((4, 0), (5, 1)), ((5, 0), (4, 1)), ((4, 2), (5, 2)),
        ((6, 0), (7, 0))])

    def refused(self, kind, book, a, b, net=NET):
        for one, other in ((a, b), (b, a)):
            with self.assertRaises(kind) as caught:
                met(book, net, one, other)
            self.assertIs(type(caught.exception), kind)
            self.assertIsInstance(caught.exception, MillError)

    def test_no_live_pair(self):
        book = Book(STOCK, [("arm", "leg", BOW), ("fork", "fork", CROSS), ("dot", "dot", NOTHING), ("arm", "arm", BOW)])
        for a, b in ((1, 3), (1, 8), (8, 9), (1, 1), (3, 3), (0, 3), (0, 0), (1, 0), (-1, 1), (-1, -2), (4, 5), (2, 3),
                     (1, 6), (BIG, 1), (10 ** 5000, 1)):
            with self.subTest(a=len(str(a)) if a < BIG else None, b=b):
                self.refused(NoPair, book, a, b)
        self.refused(NoPair, book, 1, 2, NOTHING)

    def test_a_rim_end_is_no_piece(self):
        # Rim end 0 is tied to a chief hook; and rim end 0 to another rim end.
        net = made(STOCK, [(1, "dot")], [((1, 0), (0, 0))])
        self.refused(NoPair, Book(STOCK, []), 0, 1, net)
        self.refused(NoPair, Book(STOCK, []), 0, 0, ((), (((0, 0), (0, 1)),), 0))

    def test_no_live_pair_comes_ahead_of_no_rule(self):
        self.refused(NoPair, Book(STOCK, []), 1, 3)
        self.refused(NoPair, Book({}, []), 4, 5)

    def test_stuck(self):
        self.refused(Stuck, Book(STOCK, []), 1, 2)
        self.refused(Stuck, Book(STOCK, [("arm", "arm", BOW), ("dot", "dot", NOTHING)]), 1, 2)
        self.refused(Stuck, Book(STOCK, [("arm", "leg", BOW)]), 6, 7)

    def test_what_is_no_number(self):
        book = Book(STOCK, [("arm", "leg", BOW)])
        for a, b in ((True, 2), (2, True), (None, 1), ("1", 2)):
            with self.assertRaises(NoPair):
                met(book, self.NET, a, b)

    def test_what_is_told_is_the_askers_own(self):
        rule = made(STOCK, [(1, "dot")], [((1, 0), (0, 0))])
        book = Book(STOCK, [("arm", "dot", rule)])
        net = made(STOCK, [(1, "arm"), (2, "dot")], [((1, 0), (2, 0)), ((1, 1), (0, 0))])
        behind, came = met(book, net, 1, 2)
        came.append(99)
        self.assertEqual(met(book, net, 1, 2), (behind, [3]))
        self.assertEqual(book.rule_for("arm", "dot"), rule)

    def test_by_name(self):
        book = Book(STOCK, [("dot", "dot", NOTHING)])
        net = made(STOCK, [(1, "dot"), (2, "dot")], [((1, 0), (2, 0))])
        self.assertEqual(met(book=book, net=net, a=2, b=1), (NOTHING, []))


if __name__ == "__main__":
    unittest.main()
