import copy
import random
import time
import unittest

from hookmill.books import Book
from hookmill.errors import NoPair, Stuck
from hookmill.meeting import met
from hookmill.nets import is_net, live, made
from hookmill.runs import open_pairs, replayed, rounds, run, stuck_pairs, tally
from hookmill.telling import alike
from helper import BIG, NOTHING, STOCK, lively_net, some_rules, tossed_numbers

SMALL = {"dot": 0, "arm": 1, "leg": 1, "fork": 2, "tri": 3}
BOW = ((), (((0, 0), (0, 1)),), 0)
PAIR = made(STOCK, [(1, "dot"), (2, "dot")], [((1, 0), (2, 0))])
# Two dots come to two dots that are tied again, for ever.
ENDLESS = Book(STOCK, [("dot", "dot", PAIR)])
GOING = Book(STOCK, [("dot", "dot", NOTHING)])


def dots(count, step=1):
    """So many pairs of dots: (1, 2), (3, 4) and so on, times the step."""
    pieces = [(n * step, "dot") for n in range(1, 2 * count + 1)]
    return made(STOCK, pieces, [((n * step, 0), (n * step + step, 0)) for n in range(1, 2 * count, 2)])


def slowly_run(book, net, order, most):
    """A run by single meetings, each of the net told behind the last one."""
    log = []
    while open_pairs(book, net) and len(log) < most:
        ready = open_pairs(book, net)
        place = order[len(log) % len(order)] % len(ready) if order else 0
        net = met(book, net, *ready[place])[0]
        log.append(ready[place])
    return (open_pairs(book, net) == [], net, log)


def slow_rounds(book, net, most):
    found = []
    while open_pairs(book, net) and sum(len(one) for one in found) + len(open_pairs(book, net)) <= most:
        found.append(open_pairs(book, net))
        for a, b in found[-1]:
            net = met(book, net, a, b)[0]
    return (open_pairs(book, net) == [], net, found)


class Pairs(unittest.TestCase):
    NET = made(STOCK, [(n, "arm") for n in (1, 4, 6)] + [(n, "dot") for n in (2, 3, 5, 9, 10, 11)], [
        ((1, 0), (10, 0)), ((2, 0), (9, 0)), ((3, 0), (11, 0)), ((4, 0), (5, 0)), ((1, 1), (0, 0)), ((4, 1), (6, 0)),
        ((6, 1), (0, 1))])

    def test_open_and_stuck(self):
        self.assertEqual(open_pairs(GOING, self.NET), [(2, 9), (3, 11)])
        self.assertEqual(stuck_pairs(GOING, self.NET), [(1, 10), (4, 5)])

    def test_all_or_none(self):
        self.assertEqual(open_pairs(Book(STOCK, []), self.NET), [])
        self.assertEqual(stuck_pairs(Book(STOCK, []), self.NET), live(self.NET))
        book = Book(STOCK, [("dot", "dot", NOTHING), ("dot", "arm", made(STOCK, [(1, "dot")], [((1, 0), (0, 0))]))])
        self.assertEqual(open_pairs(book, self.NET), live(self.NET))
        self.assertEqual(stuck_pairs(book, self.NET), [])

    def test_the_net_of_nothing(self):
        self.assertEqual((open_pairs(GOING, NOTHING), stuck_pairs(GOING, NOTHING)), ([], []))

    def test_together_the_live_pairs(self):
        source = random.Random(61)
        for turn in range(50):
            book = Book(SMALL, some_rules(source, SMALL, 50))
            net = lively_net(source, 20, 2, SMALL)
            names = dict(net[0])
            ready, stuck = open_pairs(book, net), stuck_pairs(book, net)
            self.assertEqual(sorted(ready + stuck), live(net))
            self.assertEqual((ready, stuck), (sorted(ready), sorted(stuck)))
            self.assertTrue(all(book.rule_for(names[a], names[b]) is not None for a, b in ready))
            self.assertTrue(all(book.rule_for(names[a], names[b]) is None for a, b in stuck))

    def test_the_lists_are_the_askers_own(self):
        open_pairs(GOING, self.NET).clear()
        stuck_pairs(GOING, self.NET).clear()
        self.assertEqual(len(open_pairs(GOING, self.NET) + stuck_pairs(GOING, self.NET)), 4)

    def test_by_name(self):
        self.assertEqual(open_pairs(book=GOING, net=NOTHING) + stuck_pairs(book=GOING, net=NOTHING), [])


class Run(unittest.TestCase):
    def test_the_first_without_an_order(self):
        behind = (True, NOTHING, [(1, 2), (3, 4), (5, 6)])
        self.assertEqual(run(GOING, dots(3)), behind)
        self.assertEqual(run(GOING, dots(3), None), behind)
        self.assertEqual(run(GOING, dots(3), []), behind)

    def test_by_an_order(self):
        # Four pairs: place 2 of four, 1 of three, 5 modulo 2 of two.
        self.assertEqual(run(GOING, dots(4), [2, 1, 5])[2], [(5, 6), (3, 4), (7, 8), (1, 2)])

    def test_an_order_is_gone_through_round_and_round(self):
        self.assertEqual(run(GOING, dots(5), [1])[2], [(3, 4), (5, 6), (7, 8), (9, 10), (1, 2)])
        self.assertEqual(run(GOING, dots(5), [0, 1])[2], [(1, 2), (5, 6), (3, 4), (9, 10), (7, 8)])

    def test_numbers_below_0(self):
        self.assertEqual(run(GOING, dots(3), [-1])[2], [(5, 6), (3, 4), (1, 2)])
        # -5 modulo 3 is 1, -4 modulo 2 is 0.
        self.assertEqual(run(GOING, dots(3), [-5, -4, 0])[2], [(3, 4), (1, 2), (5, 6)])

    def test_numbers_of_fifty_figures(self):
        # 10 ** 50 is 1 modulo 3; 10 ** 50 + 1 is 1 modulo 2.
        self.assertEqual(run(GOING, dots(3), [10 ** 50, 10 ** 50 + 1, -10 ** 49])[2], [(3, 4), (5, 6), (1, 2)])
        self.assertEqual(run(GOING, dots(3), [-10 ** 50])[2], [(5, 6), (1, 2), (3, 4)])
        self.assertTrue(run(GOING, dots(3), [10 ** 5000])[0])

    def test_most(self):
        self.assertEqual(run(GOING, dots(3), most=3), (True, NOTHING, [(1, 2), (3, 4), (5, 6)]))
        at_an_end, net, log = run(GOING, dots(3), most=2)
        self.assertEqual((at_an_end, log), (False, [(1, 2), (3, 4)]))
        self.assertEqual(net, made(STOCK, [(5, "dot"), (6, "dot")], [((5, 0), (6, 0))]))
        self.assertEqual(run(GOING, dots(3), [0], 2)[0], False)

    def test_most_0(self):
        self.assertEqual(run(GOING, dots(3), most=0), (False, dots(3), []))
        self.assertEqual(run(GOING, NOTHING, most=0), (True, NOTHING, []))
        self.assertEqual(run(Book(STOCK, []), dots(3), most=0), (True, dots(3), []))

    def test_most_left_out_is_400(self):
        self.assertEqual(len(run(ENDLESS, dots(1))[2]), 400)
        self.assertIs(run(ENDLESS, dots(1))[0], False)

    def test_at_an_end_with_stuck_pairs_left(self):
        net = made(STOCK, [(1, "arm"), (2, "dot"), (3, "dot"), (4, "dot")], [((1, 0), (2, 0)), ((1, 1), (0, 0)), ((3, 0), (4, 0))])
        at_an_end, behind, log = run(GOING, net)
        self.assertIs(at_an_end, True)
        self.assertEqual(log, [(3, 4)])
        self.assertEqual(stuck_pairs(GOING, behind), [(1, 2)])

    def test_pairs_that_come_take_their_place_in_the_order(self):
        # Two dots that were held apart by two arms are a pair with lesser numbers than the pairs that are open.
        pieces = [(1, "dot"), (2, "dot"), (3, "arm"), (4, "leg"), (5, "dot"), (6, "dot")]
        net = made(STOCK, pieces, [((1, 0), (3, 1)), ((2, 0), (4, 1)), ((3, 0), (4, 0)), ((5, 0), (6, 0))])
        book = Book(STOCK, [("arm", "leg", BOW), ("dot", "dot", NOTHING)])
        self.assertEqual(run(book, net)[2], [(3, 4), (1, 2), (5, 6)])
        self.assertEqual(run(book, net, [0, 1, 0])[2], [(3, 4), (5, 6), (1, 2)])

    def test_numbers_come_again_when_the_greatest_have_gone(self):
        two_dots = made(STOCK, [(1, "dot"), (2, "dot")], [((1, 0), (2, 0)), ((0, 0), (0, 1))])
        book = Book(STOCK, [("dot", "dot", NOTHING), ("arm", "leg", two_dots)])
        pieces = [(1, "arm"), (2, "leg"), (3, "arm"), (4, "leg"), (8, "dot"), (9, "dot")]
        net = made(STOCK, pieces, [((1, 0), (2, 0)), ((1, 1), (2, 1)), ((3, 0), (4, 0)), ((3, 1), (4, 1)), ((8, 0), (9, 0))])
        self.assertEqual(run(book, net, [-1])[2], [(8, 9), (3, 4), (5, 6), (1, 2), (3, 4)])
        self.assertEqual(run(book, net, [-1])[1], ((), (), 2))

    def test_as_single_meetings(self):
        source = random.Random(62)
        ended = {True: 0, False: 0}
        for turn in range(150):
            book = Book(SMALL, some_rules(source, SMALL, 20, source.choice((1, 2, 4))))
            net = lively_net(source, source.randrange(2, 14), source.randrange(4), SMALL)
            order = source.choice(([], [source.randrange(-99, 99) for again in range(source.randrange(1, 9))]))
            most = source.randrange(20)
            found = run(book, net, order, most)
            self.assertEqual(found, slowly_run(book, net, order, most))
            self.assertTrue(is_net(SMALL, found[1]))
            ended[found[0]] += 1
        self.assertGreater(min(ended.values()), 20)

    def test_what_is_handed_in_stays(self):
        order = [3, -1, BIG]
        ahead = copy.deepcopy(order)
        net = dots(4)
        run(GOING, net, order, 2)
        self.assertEqual((order, net), (ahead, dots(4)))

    def test_what_is_told_is_the_askers_own(self):
        first = run(GOING, dots(2))
        first[2].clear()
        self.assertEqual(run(GOING, dots(2)), (True, NOTHING, [(1, 2), (3, 4)]))

    def test_by_name(self):
        self.assertEqual(run(book=GOING, net=dots(2), order=[1], most=1), (False, dots(1), [(3, 4)]))


class Rounds(unittest.TestCase):
    def test_all_at_once_in_rising_order(self):
        self.assertEqual(rounds(GOING, dots(3)), (True, NOTHING, [[(1, 2), (3, 4), (5, 6)]]))

    def test_what_comes_meets_in_the_next(self):
        at_an_end, net, found = rounds(ENDLESS, dots(2), 6)
        self.assertEqual(found, [[(1, 2), (3, 4)], [(5, 6), (7, 8)], [(9, 10), (11, 12)]])
        self.assertEqual((at_an_end, live(net)), (False, [(13, 14), (15, 16)]))

    def test_a_round_that_the_bound_has_no_room_for_does_not_begin(self):
        self.assertEqual(rounds(GOING, dots(3), 3), (True, NOTHING, [[(1, 2), (3, 4), (5, 6)]]))
        self.assertEqual(rounds(GOING, dots(3), 2), (False, dots(3), []))
        self.assertEqual([len(rounds(ENDLESS, dots(3), most)[2]) for most in range(13)], [0, 0, 0, 1, 1, 1, 2, 2, 2, 3, 3, 3, 4])

    def test_most_0(self):
        self.assertEqual(rounds(GOING, dots(1), 0), (False, dots(1), []))
        self.assertEqual(rounds(GOING, NOTHING, 0), (True, NOTHING, []))

    def test_most_left_out_is_400(self):
        self.assertEqual(len(rounds(ENDLESS, dots(1))[2]), 400)
        self.assertEqual(rounds(GOING, dots(200))[0], True)
        self.assertEqual(len(rounds(ENDLESS, dots(3))[2]), 133)

    def test_a_pair_of_lesser_numbers_that_comes_waits_for_the_next(self):
        pieces = [(1, "dot"), (2, "dot"), (3, "arm"), (4, "leg"), (5, "dot"), (6, "dot")]
        net = made(STOCK, pieces, [((1, 0), (3, 1)), ((2, 0), (4, 1)), ((3, 0), (4, 0)), ((5, 0), (6, 0))])
        book = Book(STOCK, [("arm", "leg", BOW), ("dot", "dot", NOTHING)])
        self.assertEqual(rounds(book, net), (True, NOTHING, [[(3, 4), (5, 6)], [(1, 2)]]))

    def test_stuck_pairs_stay(self):
        net = made(STOCK, [(1, "arm"), (2, "dot"), (3, "dot"), (4, "dot")], [((1, 0), (2, 0)), ((1, 1), (0, 0)), ((3, 0), (4, 0))])
        at_an_end, behind, found = rounds(GOING, net)
        self.assertEqual((at_an_end, found, stuck_pairs(GOING, behind)), (True, [[(3, 4)]], [(1, 2)]))

    def test_as_single_meetings(self):
        source = random.Random(63)
        for turn in range(150):
            book = Book(SMALL, some_rules(source, SMALL, 20, source.choice((1, 2, 4))))
            net = lively_net(source, source.randrange(2, 14), source.randrange(4), SMALL)
            most = source.randrange(30)
            self.assertEqual(rounds(book, net, most), slow_rounds(book, net, most))

    def test_the_lists_are_the_askers_own(self):
        found = rounds(ENDLESS, dots(2), 6)[2]
        found[0].clear()
        self.assertEqual([len(one) for one in found], [0, 2, 2])
        self.assertEqual([len(one) for one in rounds(ENDLESS, dots(2), 6)[2]], [2, 2, 2])

    def test_by_name(self):
        self.assertEqual(rounds(book=GOING, net=dots(1), most=1), (True, NOTHING, [[(1, 2)]]))


class AnyOrder(unittest.TestCase):
    """Runs of any two orders, and rounds, come to the same."""

    def test_of_books_and_nets_at_a_toss(self):
        source = random.Random(64)
        ended = {True: 0, False: 0}
        for turn in range(200):
            book = Book(SMALL, some_rules(source, SMALL, 20, source.choice((1, 2, 3))))
            net = lively_net(source, source.randrange(2, 14), source.randrange(4), SMALL)
            first = run(book, net, most=40)
            orders = [[source.randrange(-10 ** 50, 10 ** 50) for again in range(5)] for more in range(3)]
            others = [run(book, net, order, 40) for order in orders]
            self.check_same(book, net, first, others)
            in_rounds = rounds(book, net, 40)
            flat = [pair for one in in_rounds[2] for pair in one]
            self.check_same(book, net, first, [(in_rounds[0], in_rounds[1], flat)])
            ended[first[0]] += 1
        self.assertGreater(min(ended.values()), 20)

    def check_same(self, book, net, first, others):
        for at_an_end, behind, log in others:
            self.assertEqual(at_an_end, first[0])
            if at_an_end:
                self.assertIsNotNone(alike(behind, first[1]))
                self.assertEqual(tally(book, net, log), tally(book, net, first[2]))
                self.assertEqual(len(log), len(first[2]))
                self.assertEqual(len(stuck_pairs(book, behind)), len(stuck_pairs(book, first[1])))

    def test_at_an_end_within_the_same_bounds(self):
        source = random.Random(65)
        for turn in range(60):
            book = Book(SMALL, some_rules(source, SMALL, 20, 2))
            net = lively_net(source, 10, 2, SMALL)
            needed = len(run(book, net, most=60)[2])
            for most in range(max(0, needed - 2), needed + 2):
                ends = {run(book, net, order, most)[0] for order in (None, [1], [-1, 5])} | {rounds(book, net, most)[0]}
                self.assertEqual(len(ends), 1)


class Log(unittest.TestCase):
    def test_replayed(self):
        net = dots(3)
        self.assertEqual(replayed(GOING, net, []), net)
        self.assertEqual(replayed(GOING, net, [(3, 4), (2, 1)]), made(STOCK, [(5, "dot"), (6, "dot")], [((5, 0), (6, 0))]))

    def test_a_run_is_done_again_either_way_round(self):
        source = random.Random(66)
        for turn in range(80):
            book = Book(SMALL, some_rules(source, SMALL, 20, 3))
            net = lively_net(source, 12, 2, SMALL)
            at_an_end, behind, log = run(book, net, [source.randrange(100) for again in range(4)], 30)
            self.assertEqual(replayed(book, net, log), behind)
            flipped = [pair[::-1] if source.randrange(2) else pair for pair in log]
            self.assertEqual(replayed(book, net, flipped), behind)
            self.assertEqual(tally(book, net, flipped), tally(book, net, log))

    def test_rounds_are_done_again(self):
        source = random.Random(67)
        book = Book(SMALL, some_rules(source, SMALL, 20, 3))
        net = lively_net(source, 20, 2, SMALL)
        at_an_end, behind, found = rounds(book, net, 50)
        self.assertEqual(replayed(book, net, [pair for one in found for pair in one]), behind)

    def test_the_first_that_can_not_meet(self):
        pieces = [(n, "dot") for n in range(1, 5)] + [(5, "arm"), (6, "dot")]
        net = made(STOCK, pieces, [((1, 0), (2, 0)), ((3, 0), (4, 0)), ((5, 0), (6, 0)), ((5, 1), (0, 0))])
        for told in (replayed, tally):
            for kind, log in (
                (NoPair, [(1, 2), (1, 2)]),
                (NoPair, [(1, 3)]),
                (NoPair, [(1, 2), (7, 8)]),
                (NoPair, [(1, 1), (5, 6)]),
                (NoPair, [(0, 5)]),
                (Stuck, [(5, 6)]),
                (Stuck, [(6, 5)]),
                (Stuck, [(1, 2), (5, 6), (1, 2)]),
                (NoPair, [(1, 2), (2, 1), (5, 6)]),
            ):
                with self.subTest(told=told.__name__, log=log):
                    with self.assertRaises(kind) as caught:
                        told(GOING, net, log)
                    self.assertIs(type(caught.exception), kind)

    def test_tally(self):
        pieces = [(1, "leg"), (2, "arm"), (3, "arm"), (4, "arm"), (5, "dot"), (6, "dot"), (7, "dot"), (8, "dot")]
        ties = [((1, 0), (2, 0)), ((1, 1), (2, 1)), ((3, 0), (4, 0)), ((3, 1), (4, 1)), ((5, 0), (6, 0)), ((7, 0), (8, 0))]
        book = Book(STOCK, [("leg", "arm", BOW), ("arm", "arm", BOW), ("dot", "dot", NOTHING)])
        net = made(STOCK, pieces, ties)
        self.assertEqual(tally(book, net, [(7, 8), (1, 2), (5, 6), (3, 4)]), [
            ("arm", "arm", 1), ("arm", "leg", 1), ("dot", "dot", 2)])
        self.assertEqual(tally(book, net, [(1, 2)]), [("arm", "leg", 1)])
        self.assertEqual(tally(book, net, []), [])

    def test_names_in_the_order_of_texts(self):
        stock = {"a": 0, "ab": 0, "b": 0, "z": 0}
        book = Book(stock, [("z", "a", NOTHING), ("b", "ab", NOTHING), ("a", "b", NOTHING), ("ab", "a", NOTHING)])
        pieces = [(1, "z"), (2, "a"), (3, "b"), (4, "ab"), (5, "b"), (6, "a"), (7, "a"), (8, "ab")]
        net = made(stock, pieces, [((n, 0), (n + 1, 0)) for n in range(1, 8, 2)])
        self.assertEqual(tally(book, net, live(net)), [("a", "ab", 1), ("a", "b", 1), ("a", "z", 1), ("ab", "b", 1)])

    def test_the_log_stays(self):
        log = [(2, 1), (3, 4)]
        replayed(GOING, dots(2), log)
        tally(GOING, dots(2), log)
        self.assertEqual(log, [(2, 1), (3, 4)])

    def test_what_is_told_is_the_askers_own(self):
        first = tally(GOING, dots(2), [(1, 2)])
        first.clear()
        self.assertEqual(tally(GOING, dots(2), [(1, 2)]), [("dot", "dot", 1)])

    def test_by_name(self):
        self.assertEqual(replayed(book=GOING, net=dots(1), log=[(1, 2)]), NOTHING)
        self.assertEqual(tally(book=GOING, net=dots(1), log=[(1, 2)]), [("dot", "dot", 1)])


class Long(unittest.TestCase):
    def check_within_seconds(self, book, net, seconds=15):
        begin = time.monotonic()
        first = run(book, net, [7, -3, 10 ** 50], 2000)
        other = run(book, net, most=2000)
        in_rounds = rounds(book, net, 2000)
        self.assertEqual(replayed(book, net, first[2]), first[1])
        self.assertEqual(sum(count for one, two, count in tally(book, net, first[2])), len(first[2]))
        self.assertLess(time.monotonic() - begin, seconds)
        self.assertEqual({first[0], other[0], in_rounds[0]}, {first[0]})
        return first

    def test_four_hundred_pieces_and_two_thousand_meetings(self):
        source = random.Random(68)
        for most_pieces in (2, 4, 20):
            book = Book(SMALL, some_rules(source, SMALL, 0, most_pieces))
            net = tossed_numbers(source, lively_net(source, 400, 0, SMALL))[0]
            self.check_within_seconds(book, net)

    def test_hundreds_of_meetings_to_the_end(self):
        # A dot goes through a row of arms, one by one, to another dot.
        count = 399
        net = made(STOCK, [(n, "arm") for n in range(1, count)] + [(count, "dot"), (count + 1, "dot")], [
            ((n, 1), (n + 1, 0)) for n in range(1, count - 1)] + [((count - 1, 1), (count + 1, 0)), ((count, 0), (1, 0))])
        through = made(STOCK, [(1, "dot")], [((1, 0), (0, 0))])
        found = self.check_within_seconds(Book(STOCK, [("dot", "arm", through), ("dot", "dot", NOTHING)]), net)
        self.assertEqual((found[0], found[1], len(found[2])), (True, NOTHING, count))

    def test_endless(self):
        found = self.check_within_seconds(ENDLESS, dots(200))
        self.assertEqual((found[0], len(found[2]), len(found[1][0])), (False, 2000, 400))


if __name__ == "__main__":
    unittest.main()
