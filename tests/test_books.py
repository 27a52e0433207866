import copy
import itertools
import random
import unittest

from hookmill.books import Book, turned
from hookmill.errors import MillError, NoRule, TwoRules, Uneven
from hookmill.joins import beside
from hookmill.nets import is_net, made, rim
from hookmill.telling import alike
from helper import BIG, NOTHING, STOCK, some_net, tossed_numbers

BOW = ((), (((0, 0), (0, 1)),), 0)
BOWS = ((), (((0, 0), (0, 2)), ((0, 1), (0, 3))), 0)
SIDEWAYS = ((), (((0, 0), (0, 1)), ((0, 2), (0, 3))), 0)
# A dot at the rim end of the arm's, a fork at those of the fork's and the dot.
ARM_FORK = made(STOCK, [(1, "dot"), (2, "fork"), (3, "dot")], [
    ((1, 0), (0, 0)), ((2, 0), (0, 1)), ((2, 1), (0, 2)), ((2, 2), (3, 0))])


class Turned(unittest.TestCase):
    def test_ordinary(self):
        net = made(STOCK, [(1, "hand")], [((1, hook), (0, hook)) for hook in range(7)], 3)
        self.assertEqual(turned(net, 2)[1], (
            ((0, 0), (1, 2)), ((0, 1), (1, 3)), ((0, 2), (1, 4)), ((0, 3), (1, 5)), ((0, 4), (1, 6)),
            ((0, 5), (1, 0)), ((0, 6), (1, 1))))
        self.assertEqual(turned(net, 2)[0], net[0])
        self.assertEqual(turned(net, 2)[2], 3)

    def test_about_nothing_and_about_the_rim(self):
        for net in (ARM_FORK, BOW, BOWS, NOTHING, ((), (), 4)):
            self.assertEqual(turned(net, 0), net)
            self.assertEqual(turned(net, rim(net)), net)

    def test_ties_of_rim_ends_in_order_the_lesser_end_first(self):
        net = ((), (((0, 0), (0, 3)), ((0, 1), (0, 2))), 0)
        self.assertEqual(turned(net, 1), ((), (((0, 0), (0, 1)), ((0, 2), (0, 3))), 0))
        self.assertEqual(turned(net, 2), ((), (((0, 0), (0, 3)), ((0, 1), (0, 2))), 0))
        self.assertEqual(turned(net, 3), ((), (((0, 0), (0, 1)), ((0, 2), (0, 3))), 0))

    def test_at_a_toss_and_turned_back(self):
        source = random.Random(41)
        for turn in range(200):
            net = some_net(source, source.randrange(5), 0, 8)
            bound = rim(net)
            for m in range(bound + 1):
                found = turned(net, m)
                self.assertTrue(is_net(STOCK, found))
                self.assertEqual(turned(found, bound - m), net)
                new = {(0, old): (0, old + bound - m if old < m else old - m) for old in range(bound)}
                ties = [tuple(sorted((new.get(one, one), new.get(other, other)))) for one, other in net[1]]
                self.assertEqual(found, (net[0], tuple(sorted(ties)), net[2]))

    def test_by_name(self):
        self.assertEqual(turned(net=BOW, m=1), BOW)


class Refused(unittest.TestCase):
    def refused(self, kind, rules, stock=STOCK):
        with self.assertRaises(kind) as caught:
            Book(stock, rules)
        self.assertIs(type(caught.exception), kind)
        self.assertIsInstance(caught.exception, MillError)

    def test_a_name_that_is_not_in_the_stock(self):
        for one, other in (("nut", "dot"), ("dot", "nut"), ("nut", "nut"), ("", "dot"), ("dot", ""), ("Dot", "dot")):
            self.refused(NoRule, [(one, other, NOTHING)])
        self.refused(NoRule, [("dot", "dot", NOTHING)], {})

    def test_a_net_that_is_none(self):
        dots = ((1, "dot"), (2, "dot"))
        for net in (
            ((), (((0, 1), (0, 0)),), 0),
            ((), (((0, 0), (0, 2)),), 0),
            ((), (((0, 0), (0, 0)),), 0),
            ((), (((0, 0), (0, 1)),), -1),
            ((), (((0, 0), (0, 1)), ((0, 0), (0, 1))), 0),
            (dots, (((0, 0), (1, 0)),), 0),
            (dots, (((0, 1), (2, 0)), ((0, 0), (1, 0))), 0),
            (dots[::-1], (((0, 0), (1, 0)), ((0, 1), (2, 0))), 0),
            (((0, "dot"), (1, "dot")), (((0, 0), (1, 0)), ((0, 1), (2, 0))), 0),
            (((-1, "dot"), (2, "dot")), (((-1, 0), (0, 0)), ((0, 1), (2, 0))), 0),
            (((1, "dot"), (1, "dot")), (((0, 0), (1, 0)), ((0, 1), (1, 0))), 0),
            (((1, "nut"), (2, "dot")), (((0, 0), (1, 0)), ((0, 1), (2, 0))), 0),
            (dots, (((0, 0), (1, 0)), ((0, 1), (2, 1))), 0),
            (dots, (((0, 0), (1, 0)), ((0, 1), (3, 0))), 0),
            (dots, (((0, -1), (1, 0)), ((0, 0), (2, 0))), 0),
        ):
            with self.subTest(net=net):
                self.assertFalse(is_net(STOCK, net))
                self.refused(NoRule, [("arm", "arm", net)])
                self.refused(NoRule, [("arm", "leg", net)])
        right = (dots, (((0, 0), (1, 0)), ((0, 1), (2, 0))), 0)
        Book(STOCK, [("arm", "arm", right), ("arm", "leg", right)])

    def test_a_net_of_another_stock(self):
        net = made({"nut": 0}, [(1, "nut"), (2, "nut")], [((1, 0), (0, 0)), ((2, 0), (0, 1))])
        self.refused(NoRule, [("arm", "leg", net)])
        net = made({"dot": 1}, [(1, "dot")], [((1, 0), (0, 0)), ((1, 1), (0, 1))])
        self.refused(NoRule, [("arm", "leg", net)])

    def test_a_rim_of_another_length(self):
        self.refused(NoRule, [("arm", "arm", NOTHING)])
        self.refused(NoRule, [("arm", "arm", BOWS)])
        self.refused(NoRule, [("dot", "dot", BOW)])
        self.refused(NoRule, [("dot", "arm", BOW)])
        self.refused(NoRule, [("arm", "dot", NOTHING)])
        Book(STOCK, [("dot", "fork", BOW), ("arm", "arm", BOW), ("dot", "dot", NOTHING)])

    def test_two_rules(self):
        self.refused(TwoRules, [("arm", "leg", BOW), ("arm", "leg", BOW)])
        self.refused(TwoRules, [("arm", "leg", BOW), ("leg", "arm", BOW)])
        self.refused(TwoRules, [("leg", "arm", BOW), ("dot", "dot", NOTHING), ("arm", "leg", BOW[:2] + (1,))])
        self.refused(TwoRules, [("arm", "arm", BOW), ("arm", "arm", BOW)])
        self.refused(TwoRules, [("dot", "dot", NOTHING), ("dot", "dot", NOTHING)])
        self.refused(TwoRules, [("dot", "fork", BOW), ("fork", "dot", BOW)])

    def test_uneven(self):
        dot_here = made(STOCK, [(1, "dot"), (2, "arm")], [((1, 0), (0, 0)), ((2, 0), (0, 1)), ((2, 1), (0, 2)), ((0, 3), (0, 4))])
        self.refused(Uneven, [("five", "five", beside(dot_here, turned(dot_here, 1)))], {"five": 5, "dot": 0, "arm": 1})
        uneven = made(STOCK, [(1, "arm")], [((1, 0), (0, 0)), ((1, 1), (0, 1))])
        self.refused(Uneven, [("arm", "arm", uneven)])
        self.refused(Uneven, [("dot", "dot", NOTHING), ("arm", "arm", uneven)])
        Book(STOCK, [("arm", "leg", uneven)])

    def test_even(self):
        even = made(STOCK, [(1, "arm"), (2, "arm")], [((1, 0), (0, 0)), ((2, 0), (0, 1)), ((1, 1), (2, 1))])
        self.assertNotEqual(even, turned(even, 1))
        for net in (even, BOW, BOW[:2] + (BIG,)):
            Book(STOCK, [("arm", "arm", net)])
        for net in (BOWS, SIDEWAYS, ((), (((0, 0), (0, 3)), ((0, 1), (0, 2))), 0)):
            Book(STOCK, [("fork", "fork", net)])

    def test_even_or_not_at_a_toss(self):
        source = random.Random(42)
        counts = {True: 0, False: 0}
        for turn in range(300):
            half = some_net(source, source.randrange(1, 3), 1, 2, {"arm": 1, "leg": 1, "dot": 0})
            if rim(half) != 2:
                continue
            even = alike(half, turned(half, 1)) is not None
            counts[even] += 1
            if even:
                Book(STOCK, [("arm", "arm", half)])
            else:
                self.refused(Uneven, [("arm", "arm", half)])
        self.assertGreater(min(counts.values()), 20)

    def test_no_rule_comes_ahead_of_two_rules(self):
        ahead = [("arm", "leg", BOW)]
        self.refused(NoRule, ahead + [("arm", "leg", NOTHING)])
        self.refused(NoRule, ahead + [("leg", "arm", ((), (((0, 1), (0, 0)),), 0))])

    def test_no_rule_comes_ahead_of_uneven(self):
        self.refused(NoRule, [("fork", "fork", made(STOCK, [(1, "arm")], [((1, 0), (0, 0)), ((1, 1), (0, 1))]))])

    def test_two_rules_comes_ahead_of_uneven(self):
        uneven = made(STOCK, [(1, "arm")], [((1, 0), (0, 0)), ((1, 1), (0, 1))])
        self.refused(TwoRules, [("arm", "arm", BOW), ("arm", "arm", uneven)])

    def test_the_first_rule_at_fault_is_refused(self):
        uneven = made(STOCK, [(1, "arm")], [((1, 0), (0, 0)), ((1, 1), (0, 1))])
        faults = [
            (NoRule, [("arm", "nut", BOW)]),
            (TwoRules, [("arm", "leg", BOW), ("leg", "arm", BOW)]),
            (Uneven, [("arm", "arm", uneven)]),
        ]
        for rows in itertools.permutations(faults):
            self.refused(rows[0][0], [("dot", "dot", NOTHING)] + rows[0][1] + rows[1][1] + rows[2][1])

    def test_a_rule_that_was_refused_is_no_rule_ahead(self):
        self.refused(NoRule, [("arm", "nut", BOW), ("arm", "nut", BOW)])


class Asked(unittest.TestCase):
    def setUp(self):
        self.book = Book(STOCK, [("arm", "fork", ARM_FORK), ("dot", "dot", NOTHING), ("leg", "leg", BOW)])

    def test_sides_of(self):
        for name, sides in STOCK.items():
            self.assertEqual(self.book.sides_of(name), sides)
        for name in ("nut", "", "copy"):
            self.assertIsNone(self.book.sides_of(name))
        self.assertIsNone(Book({}, []).sides_of("dot"))
        self.assertIs(type(self.book.sides_of("dot")), int)

    def test_rule_for_both_ways_round(self):
        self.assertEqual(self.book.rule_for("arm", "fork"), ARM_FORK)
        self.assertEqual(self.book.rule_for("fork", "arm"), turned(ARM_FORK, 1))
        self.assertEqual(self.book.rule_for("fork", "arm")[1], (
            ((0, 0), (2, 0)), ((0, 1), (2, 1)), ((0, 2), (1, 0)), ((2, 2), (3, 0))))

    def test_turned_by_the_sides_of_the_one(self):
        net = made(STOCK, [(1, "hand")], [((1, hook), (0, hook)) for hook in range(7)])
        book = Book({"hand": 6, "five": 5, "pair": 2}, [("five", "pair", net)])
        self.assertEqual(book.rule_for("five", "pair"), net)
        self.assertEqual(book.rule_for("pair", "five"), turned(net, 5))
        self.assertNotEqual(turned(net, 5), turned(net, 2))

    def test_a_name_with_itself_as_it_was_told(self):
        # Alike with itself turned, and yet another tuple: the one that was told is told.
        net = made(STOCK, [(1, "dot"), (2, "dot")], [((1, 0), (0, 1)), ((2, 0), (0, 0))])
        self.assertNotEqual(turned(net, 1), net)
        self.assertEqual(Book(STOCK, [("arm", "arm", net)]).rule_for("arm", "arm"), net)

    def test_no_rule(self):
        for one, other in (("arm", "arm"), ("dot", "arm"), ("hand", "hand"), ("fork", "dot")):
            self.assertIsNone(self.book.rule_for(one, other))
            self.assertIsNone(self.book.rule_for(other, one))
        for one, other in (("nut", "dot"), ("dot", "nut"), ("nut", "nut"), ("", "")):
            self.assertIsNone(self.book.rule_for(one, other))
        self.assertIsNone(Book({}, []).rule_for("dot", "dot"))
        self.assertEqual(self.book.rule_for("dot", "dot"), NOTHING)

    def test_what_becomes_of_what_was_handed_in(self):
        stock = dict(STOCK)
        rules = [("arm", "fork", ARM_FORK), ("dot", "dot", NOTHING)]
        ahead = copy.deepcopy((stock, rules))
        book = Book(stock, rules)
        self.assertEqual((stock, rules), ahead)
        stock["nut"] = 3
        stock["dot"] = 5
        stock.pop("arm")
        rules.append(("leg", "leg", BOW))
        rules[0] = ("arm", "fork", None)
        self.assertIsNone(book.sides_of("nut"))
        self.assertEqual(book.sides_of("dot"), 0)
        self.assertEqual(book.sides_of("arm"), 1)
        self.assertEqual(book.rule_for("arm", "fork"), ARM_FORK)
        self.assertIsNone(book.rule_for("leg", "leg"))
        rules.clear()
        stock.clear()
        self.assertEqual(book.rule_for("fork", "arm"), turned(ARM_FORK, 1))
        self.assertEqual(book.rule_for("dot", "dot"), NOTHING)

    def test_two_books_keep_nothing_in_common(self):
        Book(STOCK, [("leg", "arm", BOW)])
        self.assertIsNone(Book(STOCK, []).rule_for("leg", "arm"))

    def test_by_name(self):
        book = Book(stock=STOCK, rules=[("arm", "leg", BOW)])
        self.assertEqual(book.rule_for(one="leg", other="arm"), BOW)
        self.assertEqual(book.sides_of(name="arm"), 1)

    def test_nets_of_four_hundred_pieces(self):
        pieces = [(n, "arm") for n in range(1, 401)]
        ties = [((n, 1), (n + 1, 0)) for n in range(1, 400)] + [((1, 0), (0, 0)), ((400, 1), (0, 1))]
        net = made(STOCK, pieces, ties)
        self.assertEqual(Book(STOCK, [("arm", "leg", net)]).rule_for("leg", "arm"), turned(net, 1))
        with self.assertRaises(Uneven):
            Book(STOCK, [("arm", "arm", net)])
        big = tossed_numbers(random.Random(43), net)[0]
        self.assertEqual(Book(STOCK, [("arm", "leg", big)]).rule_for("arm", "leg"), big)


if __name__ == "__main__":
    unittest.main()
