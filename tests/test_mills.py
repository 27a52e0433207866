import random
import time
import unittest

from hookmill.books import Book
from hookmill.errors import NoPair, Stuck
from hookmill.meeting import met
from hookmill.mills import Mill
from hookmill.nets import made
from hookmill.runs import open_pairs, run
from helper import NOTHING, STOCK, lively_net, some_rules, tossed_numbers

SMALL = {"dot": 0, "arm": 1, "leg": 1, "fork": 2, "tri": 3}
PIECES = [(1, "dot"), (2, "arm"), (3, "dot"), (4, "dot"), (7, "leg"), (8, "dot")]
NET = made(STOCK, PIECES, [((1, 0), (2, 0)), ((2, 1), (0, 0)), ((3, 0), (4, 0)), ((7, 0), (8, 0)), ((7, 1), (0, 1))], 2)
ARM = made(STOCK, [(1, "dot"), (2, "dot"), (3, "dot")], [((1, 0), (2, 0)), ((3, 0), (0, 0))], 1)
BOOK = Book(STOCK, [("arm", "dot", ARM), ("dot", "dot", NOTHING)])


class Mills(unittest.TestCase):
    def test_at_the_begin(self):
        mill = Mill(BOOK, NET)
        self.assertEqual(mill.standing(), NET)
        self.assertEqual(mill.deeds(), [])
        self.assertEqual(mill.open_now(), [(1, 2), (3, 4)])
        self.assertIs(mill.take_back(), False)
        self.assertEqual(mill.standing(), NET)

    def test_meetings(self):
        mill = Mill(BOOK, NET)
        self.assertEqual(mill.meet(2, 1), [9, 10, 11])
        first = met(BOOK, NET, 1, 2)[0]
        self.assertEqual(mill.standing(), first)
        self.assertEqual(mill.deeds(), [(1, 2)])
        self.assertEqual(mill.open_now(), [(3, 4), (9, 10)])
        self.assertEqual(mill.meet(9, 10), [])
        self.assertEqual(mill.deeds(), [(1, 2), (9, 10)])
        self.assertEqual(mill.open_now(), [(3, 4)])
        self.assertEqual(mill.standing(), met(BOOK, first, 9, 10)[0])

    def test_refusals_leave_it_as_it_was(self):
        mill = Mill(BOOK, NET)
        mill.meet(3, 4)
        ahead = (mill.standing(), mill.deeds(), mill.open_now())
        for kind, a, b in ((NoPair, 3, 4), (NoPair, 1, 7), (NoPair, 2, 2), (NoPair, 0, 2), (NoPair, 99, 100), (NoPair, -1, 1),
                           (Stuck, 7, 8), (Stuck, 8, 7)):
            with self.assertRaises(kind):
                mill.meet(a, b)
            self.assertEqual((mill.standing(), mill.deeds(), mill.open_now()), ahead)
        self.assertEqual(mill.meet(1, 2), [9, 10, 11])
        self.assertIs(mill.take_back(), True)
        self.assertEqual((mill.standing(), mill.deeds(), mill.open_now()), ahead)

    def test_taken_back_to_the_begin_and_beyond(self):
        mill = Mill(BOOK, NET)
        nets = [mill.standing()]
        for a, b in ((1, 2), (10, 9), (3, 4)):
            mill.meet(a, b)
            nets.append(mill.standing())
        self.assertEqual(mill.open_now(), [])
        for count in (2, 1, 0):
            self.assertIs(mill.take_back(), True)
            self.assertEqual(mill.standing(), nets[count])
            self.assertEqual(mill.deeds(), [(1, 2), (9, 10), (3, 4)][:count])
            self.assertEqual(mill.open_now(), open_pairs(BOOK, nets[count]))
        for again in range(3):
            self.assertIs(mill.take_back(), False)
            self.assertEqual((mill.standing(), mill.deeds()), (NET, []))
        self.assertEqual(mill.meet(3, 4), [])

    def test_another_way_behind_a_meeting_taken_back(self):
        mill = Mill(BOOK, NET)
        mill.meet(1, 2)
        mill.take_back()
        mill.meet(3, 4)
        self.assertEqual(mill.meet(1, 2), [9, 10, 11])
        self.assertEqual(mill.deeds(), [(3, 4), (1, 2)])

    def test_numbers_follow_the_greatest_that_stands(self):
        net = made(STOCK, [(1, "arm"), (2, "dot"), (8, "dot"), (9, "dot")], [((1, 0), (2, 0)), ((1, 1), (0, 0)), ((8, 0), (9, 0))])
        mill = Mill(BOOK, net)
        mill.meet(8, 9)
        self.assertEqual(mill.meet(1, 2), [3, 4, 5])
        mill.take_back()
        mill.take_back()
        self.assertEqual(mill.meet(1, 2), [10, 11, 12])

    def test_at_a_toss_against_single_meetings(self):
        source = random.Random(71)
        for turn in range(60):
            book = Book(SMALL, some_rules(source, SMALL, 15, source.choice((1, 2, 4))))
            nets, deeds = [lively_net(source, source.randrange(2, 14), source.randrange(4), SMALL)], []
            mill = Mill(book, nets[0])
            for step in range(25):
                ready = open_pairs(book, nets[-1])
                if ready and source.randrange(3):
                    pair = source.choice(ready)
                    behind, came = met(book, nets[-1], *pair)
                    self.assertEqual(mill.meet(*source.sample(pair, 2)), came)
                    nets.append(behind)
                    deeds.append(pair)
                else:
                    self.assertIs(mill.take_back(), bool(deeds))
                    deeds = deeds[:-1]
                    nets = nets[:1] + nets[1:-1]
                self.assertEqual((mill.standing(), mill.deeds(), mill.open_now()), (nets[-1], deeds, open_pairs(book, nets[-1])))

    def test_what_is_told_being_changed_behind(self):
        mill = Mill(BOOK, NET)
        came = mill.meet(1, 2)
        came.clear()
        mill.deeds().append((5, 6))
        mill.open_now().clear()
        self.assertEqual(mill.deeds(), [(1, 2)])
        self.assertEqual(mill.open_now(), [(3, 4), (9, 10)])
        self.assertIs(mill.take_back(), True)
        self.assertEqual(mill.standing(), NET)

    def test_what_was_told_stays(self):
        mill = Mill(BOOK, NET)
        told = (mill.standing(), mill.deeds(), mill.open_now())
        mill.meet(1, 2)
        mill.meet(3, 4)
        self.assertEqual(told, (NET, [], [(1, 2), (3, 4)]))

    def test_two_mills_keep_nothing_in_common(self):
        one, other = Mill(BOOK, NET), Mill(BOOK, NET)
        one.meet(1, 2)
        self.assertEqual((other.standing(), other.deeds()), (NET, []))

    def test_the_net_of_nothing(self):
        mill = Mill(BOOK, NOTHING)
        self.assertEqual((mill.standing(), mill.deeds(), mill.open_now(), mill.take_back()), (NOTHING, [], [], False))

    def test_by_name(self):
        self.assertEqual(Mill(book=BOOK, net=NET).meet(a=3, b=4), [])

    def test_two_thousand_meetings_within_seconds(self):
        source = random.Random(72)
        book = Book(SMALL, some_rules(source, SMALL, 0, 4))
        net = tossed_numbers(source, lively_net(source, 400, 0, SMALL))[0]
        at_an_end, behind, log = run(book, net, [5, 11], 2000)
        begin = time.monotonic()
        mill = Mill(book, net)
        for a, b in log:
            mill.meet(b, a)
        self.assertEqual((mill.standing(), mill.deeds()), (behind, log))
        while mill.take_back():
            pass
        self.assertEqual((mill.standing(), mill.deeds()), (net, []))
        self.assertLess(time.monotonic() - begin, 15)


if __name__ == "__main__":
    unittest.main()
