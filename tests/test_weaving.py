import random
import time
import unittest

from hookmill.books import Book
from hookmill.kinds import sound
from hookmill.meeting import met
from hookmill.nets import is_net, made, mate, rim
from hookmill.plain import worth
from hookmill.runs import run, tally
from hookmill.errors import Spent
from hookmill.telling import alike
from hookmill.texts import read
from hookmill.weaving import book_of, rules_of, stock_of, woven
from helper import NATS, number, some_program, some_words

PROGRAM = sound(read(NATS))
STOCK = stock_of(PROGRAM)


def net_of(text, ties, stock=STOCK):
    """A net of pieces 1, 2 .. of these names."""
    return made(stock, list(enumerate(text.split(), 1)), ties)


def unravelled(program, net):
    """Read off a net: its words, rim ends standing for variables, and for each variable the copies that served it."""
    takers = {taker[0] for taker in program[2]}
    stock = stock_of(program)
    names = dict(net[0])
    mates = {end: far for tie in net[1] for end, far in (tie, tie[::-1])}
    words, served, waiting = [], {}, [(0, 0)]
    while waiting:
        giver, copies = mates[waiting.pop()], []
        while giver[0] != 0 and names[giver[0]] == "copy":
            copies.insert(0, giver)
            giver = mates[(giver[0], 0)]
        if giver[0] == 0:
            words.append(giver[1])
            served.setdefault(giver[1], []).append(copies)
            continue
        name = names[giver[0]]
        words.append(name)
        assert giver[1] == (1 if name in takers else 0) and not copies
        takes = [0] + list(range(2, stock[name] + 1)) if name in takers else list(range(1, stock[name] + 1))
        waiting += [(giver[0], hook) for hook in reversed(takes)]
    return tuple(words), served


class Stock(unittest.TestCase):
    def test_ordinary(self):
        self.assertEqual(stock_of(PROGRAM), {
            "zero": 0, "next": 1, "void": 0, "put": 2, "add": 2, "mul": 2, "sum": 1, "join": 2, "copy": 2, "drop": 0})

    def test_the_program_of_nothing(self):
        self.assertEqual(stock_of(((), (), (), ())), {"copy": 2, "drop": 0})

    def test_the_most_parts(self):
        program = sound(read("kind a\nmaker m a a a a\ntaker t a a a a\nrule t m x y z b c = m x y z"))
        self.assertEqual(stock_of(program), {"m": 3, "t": 3, "copy": 2, "drop": 0})

    def test_it_is_the_askers_own(self):
        stock_of(PROGRAM).clear()
        self.assertEqual(stock_of(PROGRAM), STOCK)

    def test_by_name(self):
        self.assertEqual(stock_of(program=PROGRAM), STOCK)


class Woven(unittest.TestCase):
    def check(self, text, names, ties):
        net = woven(PROGRAM, tuple(text.split()))
        self.assertTrue(is_net(STOCK, net))
        self.assertIsNotNone(alike(net, net_of(names, ties)))

    def test_one_word(self):
        self.check("zero", "zero", [((1, 0), (0, 0))])
        self.check("void", "void", [((1, 0), (0, 0))])

    def test_makers(self):
        self.check("next zero", "next zero", [((1, 0), (0, 0)), ((1, 1), (2, 0))])
        self.check("put zero void", "put zero void", [((1, 0), (0, 0)), ((1, 1), (2, 0)), ((1, 2), (3, 0))])

    def test_takers(self):
        self.check("sum void", "sum void", [((1, 1), (0, 0)), ((1, 0), (2, 0))])
        self.check("add zero next zero", "add zero next zero", [
            ((1, 1), (0, 0)), ((1, 0), (2, 0)), ((1, 2), (3, 0)), ((3, 1), (4, 0))])
        self.check("add add zero zero sum void", "add add zero zero sum void", [
            ((1, 1), (0, 0)), ((1, 0), (2, 1)), ((1, 2), (5, 1)), ((2, 0), (3, 0)), ((2, 2), (4, 0)), ((5, 0), (6, 0))])

    def test_parts_in_order(self):
        program = sound(read("kind a\nmaker m a\nmaker n a a\nmaker t a a a a\ntaker s a a a a\n"
                             "rule s m x y = x\nrule s n z x y = y\nrule s t u v w x y = t u v w"))
        stock = stock_of(program)
        net = woven(program, ("t", "m", "n", "m", "n", "n", "m"))
        self.assertIsNotNone(alike(net, net_of("t m n m n n m", [
            ((1, 0), (0, 0)), ((1, 1), (2, 0)), ((1, 2), (3, 0)), ((3, 1), (4, 0)), ((1, 3), (5, 0)), ((5, 1), (6, 0)), ((6, 1), (7, 0))], stock)))
        net = woven(program, ("s", "m", "n", "m", "n", "n", "m"))
        self.assertIsNotNone(alike(net, net_of("s m n m n n m", [
            ((1, 1), (0, 0)), ((1, 0), (2, 0)), ((1, 2), (3, 0)), ((3, 1), (4, 0)), ((1, 3), (5, 0)), ((5, 1), (6, 0)), ((6, 1), (7, 0))], stock)))

    def check_words(self, program, words):
        net = woven(program, words)
        self.assertTrue(is_net(stock_of(program), net))
        self.assertEqual((rim(net), net[2], len(net[0])), (1, 0, len(words)))
        self.assertEqual(unravelled(program, net), (words, {}))

    def test_at_a_toss(self):
        source = random.Random(101)
        for turn in range(200):
            program = some_program(source)
            self.check_words(program, some_words(source, program, source.choice(program[0]), source.randrange(1, 60)))

    def test_four_hundred_words(self):
        for words in (number(399), ("add",) * 199 + ("zero",) * 200, ("add", "zero") * 199 + ("zero",), ("put", "zero") * 199 + ("void",)):
            self.check_words(PROGRAM, words)

    def test_by_name(self):
        self.assertEqual(woven(program=PROGRAM, words=("zero",)), woven(PROGRAM, ("zero",)))


class Rules(unittest.TestCase):
    def check(self, heads, rule, names, ties):
        """The net of the one rule that is looked at, the first."""
        program = read(heads + rule)
        found = rules_of(program)[0]
        expected = net_of(names, ties, stock_of(program))
        self.assertEqual(found[:2], program[3][0][:2])
        self.assertTrue(is_net(stock_of(program), found[2]))
        self.assertIsNotNone(alike(found[2], expected), found[2])

    HEADS = "kind a\nmaker m a\nmaker n a a\nmaker p a a a\ntaker s a a\ntaker t a a a\ntaker u a a a a\n"

    def test_a_variable_that_comes_once(self):
        self.check(self.HEADS, "rule t m x = x", "", [((0, 0), (0, 1))])
        self.check(self.HEADS, "rule s n x = n x", "n", [((1, 0), (0, 0)), ((1, 1), (0, 1))])
        self.check(self.HEADS, "rule t m x = s x", "s", [((1, 1), (0, 0)), ((1, 0), (0, 1))])

    def test_a_variable_that_does_not_come(self):
        self.check(self.HEADS, "rule t m x = m", "m drop", [((1, 0), (0, 0)), ((2, 0), (0, 1))])
        self.check(self.HEADS, "rule s p x y = m", "m drop drop", [((1, 0), (0, 0)), ((2, 0), (0, 1)), ((3, 0), (0, 2))])

    def test_a_variable_that_comes_twice(self):
        self.check(self.HEADS, "rule t m x = p x x", "p copy", [
            ((1, 0), (0, 0)), ((2, 0), (0, 1)), ((2, 1), (1, 1)), ((2, 2), (1, 2))])
        self.check(self.HEADS, "rule t m x = t x x", "t copy", [
            ((1, 1), (0, 0)), ((2, 0), (0, 1)), ((2, 1), (1, 0)), ((2, 2), (1, 2))])

    def test_a_variable_that_comes_more_often(self):
        self.check(self.HEADS, "rule t m x = p x p x p x x", "p p p copy copy copy", [
            ((1, 0), (0, 0)), ((2, 0), (1, 2)), ((3, 0), (2, 2)),
            ((4, 0), (0, 1)), ((4, 1), (1, 1)), ((4, 2), (5, 0)), ((5, 1), (2, 1)), ((5, 2), (6, 0)), ((6, 1), (3, 1)), ((6, 2), (3, 2))])

    def test_further_things_ahead_of_parts(self):
        # The names stand for the two parts, then for the two further things; on the rim it is the other way round.
        self.check(self.HEADS, "rule u p x y v w = p x p y p v w", "p p p", [
            ((1, 0), (0, 0)), ((2, 0), (1, 2)), ((3, 0), (2, 2)), ((1, 1), (0, 3)), ((2, 1), (0, 4)), ((3, 1), (0, 1)), ((3, 2), (0, 2))])

    def test_names_in_any_order_among_the_words(self):
        self.check(self.HEADS, "rule t p x y z = p z p x y", "p p", [
            ((1, 0), (0, 0)), ((1, 1), (0, 1)), ((1, 2), (2, 0)), ((2, 1), (0, 2)), ((2, 2), (0, 3))])
        self.check(self.HEADS, "rule t p z y x = p y p z x", "p p", [
            ((1, 0), (0, 0)), ((1, 1), (0, 3)), ((1, 2), (2, 0)), ((2, 1), (0, 2)), ((2, 2), (0, 1))])

    def test_all_sorts_at_once(self):
        self.check(self.HEADS, "rule u p x y v w = t y p v y", "t p copy drop drop", [
            ((1, 1), (0, 0)), ((1, 2), (2, 0)), ((2, 1), (0, 1)), ((3, 0), (0, 4)), ((3, 1), (1, 0)), ((3, 2), (2, 2)),
            ((4, 0), (0, 2)), ((5, 0), (0, 3))])

    def test_copy_and_drop(self):
        program = sound(read("kind a\nmaker m a\nmaker n a a\nmaker q a a a a"))
        stock = stock_of(program)
        expected = [
            ("copy", "m", net_of("m m", [((1, 0), (0, 0)), ((2, 0), (0, 1))], stock)),
            ("drop", "m", net_of("", [], stock)),
            ("copy", "n", net_of("n n copy", [((1, 0), (0, 0)), ((2, 0), (0, 1)), ((3, 0), (0, 2)), ((3, 1), (1, 1)), ((3, 2), (2, 1))], stock)),
            ("drop", "n", net_of("drop", [((1, 0), (0, 0))], stock)),
            ("copy", "q", net_of("q q copy copy copy", [((1, 0), (0, 0)), ((2, 0), (0, 1))] + [
                tie for j in (1, 2, 3) for tie in (((j + 2, 0), (0, j + 1)), ((j + 2, 1), (1, j)), ((j + 2, 2), (2, j)))], stock)),
            ("drop", "q", net_of("drop drop drop", [((1, 0), (0, 0)), ((2, 0), (0, 1)), ((3, 0), (0, 2))], stock)),
        ]
        found = rules_of(program)
        self.assertEqual([rule[:2] for rule in found], [rule[:2] for rule in expected])
        for one, other in zip(found, expected):
            self.assertIsNotNone(alike(one[2], other[2]), one)

    def test_in_their_order(self):
        found = [rule[:2] for rule in rules_of(PROGRAM)]
        self.assertEqual(found, [rule[:2] for rule in PROGRAM[3]] + [
            ("copy", "zero"), ("drop", "zero"), ("copy", "next"), ("drop", "next"), ("copy", "void"), ("drop", "void"), ("copy", "put"), ("drop", "put")])
        rules = PROGRAM[3][::-1]
        self.assertEqual([rule[:2] for rule in rules_of(PROGRAM[:3] + (rules,))][:8], [rule[:2] for rule in rules])

    def test_the_program_of_nothing(self):
        self.assertEqual(rules_of(((), (), (), ())), [])

    def test_at_a_toss(self):
        source = random.Random(102)
        for turn in range(100):
            program = some_program(source)
            stock = stock_of(program)
            parts = {name: len(part) for name, kind, part in program[1]}
            for (taker, maker, names, words), found in zip(program[3], rules_of(program)):
                net = found[2]
                self.assertEqual(found[:2], (taker, maker))
                self.assertTrue(is_net(stock, net))
                self.assertEqual((rim(net), net[2]), (stock[taker] + stock[maker], 0))
                order = names[parts[maker]:] + names[:parts[maker]]
                rims = {name: place for place, name in enumerate(order, 1)}
                back, served = unravelled(program, net)
                self.assertEqual(back, tuple(rims.get(word, word) for word in words))
                self.check_copies(net, served, {rims[name]: words.count(name) for name in names})

    def check_copies(self, net, served, uses):
        names = dict(net[0])
        for place, count in uses.items():
            if count == 0:
                end = mate(net, (0, place))
                self.assertEqual((names[end[0]], end[1]), ("drop", 0))
            if count == 1:
                self.assertEqual(served[place], [[]])
            if count > 1:
                lengths = [len(copies) for copies in served[place]]
                self.assertEqual(lengths, list(range(1, count)) + [count - 1])
                last_hooks = [copies[-1][1] for copies in served[place]]
                self.assertEqual(last_hooks, [1] * (count - 1) + [2])
        copies = [name for number, name in net[0] if name == "copy"]
        self.assertEqual(len(copies), sum(max(0, count - 1) for count in uses.values()))
        drops = [name for number, name in net[0] if name == "drop"]
        self.assertEqual(len(drops), sum(count == 0 for count in uses.values()))

    def test_forty_words(self):
        self.check(self.HEADS, "rule t m x = " + "n " * 39 + "x", "n " * 39, [((1, 0), (0, 0)), ((39, 1), (0, 1))] + [
            ((n, 1), (n + 1, 0)) for n in range(1, 39)])

    def test_by_name(self):
        self.assertEqual(rules_of(program=PROGRAM), rules_of(PROGRAM))


class BookOf(unittest.TestCase):
    def test_the_stock_and_the_rules(self):
        book = book_of(PROGRAM)
        self.assertIsInstance(book, Book)
        for name, sides in STOCK.items():
            self.assertEqual(book.sides_of(name), sides)
        self.assertIsNone(book.sides_of("nat"))
        for one, other, net in rules_of(PROGRAM):
            self.assertEqual(book.rule_for(one, other), net)
        for one, other in (("zero", "next"), ("copy", "add"), ("drop", "drop"), ("add", "void"), ("copy", "drop")):
            self.assertIsNone(book.rule_for(one, other))

    def test_a_meeting(self):
        words = ("add", "next", "zero", "zero")
        net = woven(PROGRAM, words)
        names = dict(net[0])
        one, other = [number for number in names if names[number] in ("add", "next")]
        behind = met(book_of(PROGRAM), net, one, other)[0]
        self.assertIsNotNone(alike(behind, woven(PROGRAM, ("next", "add", "zero", "zero"))))

    def test_the_woven_net_comes_to_the_value(self):
        source = random.Random(103)
        counts = {True: 0, False: 0}
        for turn in range(250):
            program = some_program(source)
            words = some_words(source, program, source.choice(program[0]), source.randrange(1, 25))
            book, net = book_of(program), woven(program, words)
            at_an_end, behind, log = run(book, net, [source.randrange(-50, 50) for again in range(5)], 120)
            counts[at_an_end] += 1
            if not at_an_end:
                with self.assertRaises(Spent):
                    worth(program, words, 120)
                continue
            value, calls, copies, drops = worth(program, words, 120)
            self.assertIsNotNone(alike(behind, woven(program, value)))
            self.assertEqual(len(log), calls + copies + drops)
            rows = tally(book, net, log)
            self.assertEqual(sum(count for one, other, count in rows if "copy" in (one, other)), copies)
            self.assertEqual(sum(count for one, other, count in rows if "drop" in (one, other)), drops)
        self.assertGreater(min(counts.values()), 30)

    def test_near_the_bounds_within_seconds(self):
        begin = time.monotonic()
        book, net = book_of(PROGRAM), woven(PROGRAM, ("mul",) + number(28) + number(30))
        at_an_end, behind, log = run(book, net, [3, -7, 10 ** 50], 2000)
        self.assertEqual((at_an_end, len(log)), (True, 1796))
        self.assertIsNotNone(alike(behind, woven(PROGRAM, number(840))))
        self.assertLess(time.monotonic() - begin, 15)

    def test_a_program_of_four_thousand_signs(self):
        names = [f"t{a}{b}" for a in "abcdefgh" for b in "abcde"]
        heads = "kind a\nmaker m a\nmaker n a a a a\n" + "\n".join(f"taker {name} a a" for name in names)
        words = "n n x y z n n x y z n x y z y n n z y x x n x z y"
        rules = "\n".join(f"rule {name} m = m\nrule {name} n x y z = {words}" for name in names)
        text = heads + "\n" + rules
        self.assertTrue(3800 < len(text) <= 4000, len(text))
        begin = time.monotonic()
        program = sound(read(text))
        self.assertIsNotNone(book_of(program).rule_for("n", "taa"))
        self.assertLess(time.monotonic() - begin, 5)

    def test_by_name(self):
        self.assertEqual(book_of(program=PROGRAM).sides_of("put"), 2)


if __name__ == "__main__":
    unittest.main()
