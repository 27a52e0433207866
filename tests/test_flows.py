import random
import time
import unittest

from hookmill.errors import Unfit
from hookmill.flows import flows, levels
from hookmill.joins import beside, hooked
from hookmill.kinds import kind_of, sound
from hookmill.meeting import met
from hookmill.nets import made, rim
from hookmill.runs import open_pairs, stuck_pairs
from hookmill.texts import read
from hookmill.unweaving import unwoven
from hookmill.weaving import book_of, rules_of, stock_of, woven
from helper import BIG, NATS, NOTHING, number, some_program, some_words, tossed_numbers

PROGRAM = sound(read(NATS))
STOCK = stock_of(PROGRAM)


def net_of(text, ties, rings=0):
    return made(STOCK, list(enumerate(text.split(), 1)), ties, rings)


class Flows(unittest.TestCase):
    def test_a_woven_term(self):
        net = net_of("sum put zero void", [((1, 1), (0, 0)), ((1, 0), (2, 0)), ((2, 1), (3, 0)), ((2, 2), (4, 0))])
        self.assertEqual(flows(PROGRAM, net), [
            ((1, 1), (0, 0), "nat"), ((2, 0), (1, 0), "list"), ((3, 0), (2, 1), "nat"), ((4, 0), (2, 2), "list")])

    def test_in_rising_order_of_givers(self):
        net = net_of("zero next add next zero", [
            ((3, 1), (0, 0)), ((3, 0), (2, 0)), ((2, 1), (1, 0)), ((3, 2), (4, 0)), ((4, 1), (5, 0))])
        self.assertEqual([flow[0] for flow in flows(PROGRAM, net)], [(1, 0), (2, 0), (3, 1), (4, 0), (5, 0)])

    def test_given_kinds(self):
        net = net_of("put", [((1, 0), (0, 0)), ((1, 1), (0, 2)), ((1, 2), (0, 1))])
        self.assertEqual(flows(PROGRAM, net, ("list", "nat")), [
            ((0, 1), (1, 2), "list"), ((0, 2), (1, 1), "nat"), ((1, 0), (0, 0), "list")])
        bow = ((), (((0, 0), (0, 1)),), 0)
        self.assertEqual(flows(PROGRAM, bow, ("list",)), [((0, 1), (0, 0), "list")])

    def test_given_left_out_none_and_empty(self):
        net = woven(PROGRAM, ("next", "zero"))
        known = flows(PROGRAM, net)
        self.assertEqual(flows(PROGRAM, net, None), known)
        self.assertEqual(flows(PROGRAM, net, ()), known)
        self.assertEqual(flows(PROGRAM, net, given=()), known)

    def test_copies_and_drops(self):
        net = net_of("put copy sum drop", [
            ((1, 0), (0, 0)), ((2, 0), (0, 1)), ((2, 1), (3, 0)), ((2, 2), (1, 2)), ((3, 1), (1, 1)), ((4, 0), (0, 2))])
        self.assertEqual(flows(PROGRAM, net, ("list", "nat")), [
            ((0, 1), (2, 0), "list"), ((0, 2), (4, 0), "nat"), ((1, 0), (0, 0), "list"), ((2, 1), (3, 0), "list"),
            ((2, 2), (1, 2), "list"), ((3, 1), (1, 1), "nat")])

    def test_copies_in_a_row(self):
        # Copy 1 takes from copy 2, which takes from copy 3, which takes from a maker.
        net = net_of("copy copy copy zero drop drop drop", [
            ((1, 0), (2, 1)), ((2, 0), (3, 2)), ((3, 0), (4, 0)), ((1, 1), (0, 0)), ((1, 2), (5, 0)), ((2, 2), (6, 0)), ((3, 1), (7, 0))])
        found = flows(PROGRAM, net)
        self.assertEqual({flow[2] for flow in found}, {"nat"})
        self.assertEqual([flow[:2] for flow in found], [
            ((1, 1), (0, 0)), ((1, 2), (5, 0)), ((2, 1), (1, 0)), ((2, 2), (6, 0)), ((3, 1), (7, 0)), ((3, 2), (2, 0)), ((4, 0), (3, 0))])

    def test_rim_end_0_takes_any(self):
        for text, kind in (("zero", "nat"), ("void", "list")):
            self.assertEqual(flows(PROGRAM, woven(PROGRAM, (text,))), [((1, 0), (0, 0), kind)])

    def test_one_for_each_tie(self):
        source = random.Random(131)
        for turn in range(100):
            program = some_program(source)
            words = some_words(source, program, source.choice(program[0]), source.randrange(1, 40))
            net = tossed_numbers(source, woven(program, words))[0]
            found = flows(program, net)
            self.assertEqual(sorted(tuple(sorted(flow[:2])) for flow in found), list(net[1]))
            self.assertEqual(found, sorted(found))

    def test_the_list_is_the_askers_own(self):
        net = woven(PROGRAM, ("next", "zero"))
        flows(PROGRAM, net).clear()
        levels(PROGRAM, net).clear()
        self.assertEqual((len(flows(PROGRAM, net)), len(levels(PROGRAM, net))), (2, 2))

    def test_by_name(self):
        net = woven(PROGRAM, ("zero",))
        self.assertEqual(flows(program=PROGRAM, net=net, given=None), [((1, 0), (0, 0), "nat")])
        self.assertEqual(levels(program=PROGRAM, net=net, given=None), [(1, 0)])


# Each row: what is wrong, names, ties, rings, given.
UNFIT = [
    ("no rim end", "zero drop", [((1, 0), (2, 0))], 0, ()),
    ("a rim end too many", "zero drop", [((1, 0), (0, 0)), ((2, 0), (0, 1))], 0, ()),
    ("a rim end too few", "zero", [((1, 0), (0, 0))], 0, ("nat",)),
    ("given kinds too few", "put", [((1, 0), (0, 0)), ((1, 1), (0, 1)), ((1, 2), (0, 2))], 0, ("nat",)),
    ("given kinds too many", "put", [((1, 0), (0, 0)), ((1, 1), (0, 1)), ((1, 2), (0, 2))], 0, ("nat", "list", "nat")),
    ("a ring", "zero", [((1, 0), (0, 0))], 1, ()),
    ("many rings", "zero", [((1, 0), (0, 0))], BIG, ()),
    ("two makers give", "zero zero next", [((1, 0), (2, 0)), ((3, 0), (0, 0)), ((3, 1), (0, 1))], 0, ("nat",)),
    ("a maker's chief hook and a rim end give", "zero", [((1, 0), (0, 1)), ((0, 0), (0, 2))], 0, ("nat", "nat")),
    ("a taker's answer and a maker give", "sum zero drop", [((1, 1), (2, 0)), ((1, 0), (0, 1)), ((3, 0), (0, 0))], 0, ("list",)),
    ("a copy's side hooks give to each other", "copy zero drop", [((1, 1), (1, 2)), ((1, 0), (2, 0)), ((3, 0), (0, 0))], 0, ()),
    ("a drop and rim end 0 take", "drop", [((1, 0), (0, 0))], 0, ()),
    ("a maker's side hook and rim end 0 take", "next drop", [((1, 1), (0, 0)), ((1, 0), (2, 0))], 0, ()),
    ("two drops take", "zero drop drop", [((1, 0), (0, 0)), ((2, 0), (3, 0))], 0, ()),
    ("two takers take", "zero sum sum drop drop", [((1, 0), (0, 0)), ((2, 0), (3, 0)), ((2, 1), (4, 0)), ((3, 1), (5, 0))], 0, ()),
    ("two side hooks of makers take", "next next zero", [((1, 0), (0, 0)), ((1, 1), (2, 1)), ((2, 0), (3, 0))], 0, ()),
    ("two rim ends give", "zero", [((1, 0), (0, 0)), ((0, 1), (0, 2))], 0, ("nat", "nat")),
    ("a copy that takes from itself", "zero copy drop", [((1, 0), (0, 0)), ((2, 0), (2, 1)), ((2, 2), (3, 0))], 0, ()),
    ("two copies that take from each other", "zero copy copy drop drop", [
        ((1, 0), (0, 0)), ((2, 0), (3, 1)), ((3, 0), (2, 2)), ((2, 1), (4, 0)), ((3, 2), (5, 0))], 0, ()),
    ("a copy behind two that take from each other", "copy copy copy drop drop drop", [
        ((1, 0), (2, 1)), ((2, 0), (3, 1)), ((3, 0), (2, 2)), ((1, 1), (0, 0)), ((1, 2), (4, 0)), ((3, 2), (5, 0)), ((6, 0), (0, 1))], 0, ("nat",)),
    ("a maker takes another kind", "next void", [((1, 0), (0, 0)), ((1, 1), (2, 0))], 0, ()),
    ("a maker takes another kind at its second hook", "put zero zero", [((1, 0), (0, 0)), ((1, 1), (2, 0)), ((1, 2), (3, 0))], 0, ()),
    ("a taker takes another kind", "sum zero", [((1, 1), (0, 0)), ((1, 0), (2, 0))], 0, ()),
    ("a taker takes another further kind", "add zero void", [((1, 1), (0, 0)), ((1, 0), (2, 0)), ((1, 2), (3, 0))], 0, ()),
    ("a taker's answer of another kind", "put zero sum void", [((1, 0), (0, 0)), ((1, 1), (2, 0)), ((1, 2), (3, 1)), ((3, 0), (4, 0))], 0, ()),
    ("a given one of another kind", "next", [((1, 0), (0, 0)), ((1, 1), (0, 1))], 0, ("list",)),
    ("given ones exchanged", "put", [((1, 0), (0, 0)), ((1, 1), (0, 1)), ((1, 2), (0, 2))], 0, ("list", "nat")),
    ("another kind through a copy", "put copy", [((1, 0), (0, 0)), ((2, 0), (0, 1)), ((2, 1), (1, 1)), ((2, 2), (1, 2))], 0, ("nat",)),
    ("another kind through two copies", "next copy copy void drop drop", [
        ((1, 0), (0, 0)), ((2, 0), (4, 0)), ((2, 1), (3, 0)), ((3, 1), (1, 1)), ((3, 2), (5, 0)), ((2, 2), (6, 0))], 0, ()),
]

# Pieces that take from one another in a ring: flows, but no levels.
RINGS = [
    ("a maker from itself", "zero next", [((1, 0), (0, 0)), ((2, 0), (2, 1))], ()),
    ("two makers from each other", "zero next next", [((1, 0), (0, 0)), ((2, 0), (3, 1)), ((3, 0), (2, 1))], ()),
    ("a taker from itself", "add zero zero", [((1, 1), (1, 0)), ((1, 2), (2, 0)), ((3, 0), (0, 0))], ()),
    ("a taker's answer as its further one", "add zero zero", [((1, 1), (1, 2)), ((1, 0), (2, 0)), ((3, 0), (0, 0))], ()),
    ("through a copy", "add copy zero", [((1, 1), (2, 0)), ((2, 1), (1, 0)), ((2, 2), (0, 0)), ((1, 2), (3, 0))], ()),
    ("through a maker and a taker", "add next copy", [((1, 1), (2, 1)), ((2, 0), (3, 0)), ((3, 1), (1, 0)), ((3, 2), (0, 0)), ((1, 2), (0, 1))], ("nat",)),
]


class Refused(unittest.TestCase):
    def test_each_way_to_be_unfit(self):
        for fault, names, ties, rings, given in UNFIT:
            for told in (flows, levels):
                with self.subTest(fault=fault, told=told.__name__):
                    with self.assertRaises(Unfit):
                        told(PROGRAM, net_of(names, ties, rings), given)

    def test_left_out_where_kinds_are_asked_for(self):
        net = net_of("next", [((1, 0), (0, 0)), ((1, 1), (0, 1))])
        self.assertEqual(len(flows(PROGRAM, net, ("nat",))), 2)
        for told in (flows, levels):
            with self.assertRaises(Unfit):
                told(PROGRAM, net)

    def test_the_net_of_nothing(self):
        for told in (flows, levels):
            with self.assertRaises(Unfit):
                told(PROGRAM, NOTHING)

    def test_rings_have_flows_but_no_levels(self):
        for fault, names, ties, given in RINGS:
            with self.subTest(fault=fault):
                net = net_of(names, ties)
                self.assertEqual(len(flows(PROGRAM, net, given)), len(net[1]))
                with self.assertRaises(Unfit):
                    levels(PROGRAM, net, given)


class Levels(unittest.TestCase):
    def test_a_row(self):
        net = net_of("next next zero", [((1, 0), (0, 0)), ((1, 1), (2, 0)), ((2, 1), (3, 0))])
        self.assertEqual(levels(PROGRAM, net), [(1, 2), (2, 1), (3, 0)])

    def test_the_greatest_counts(self):
        net = net_of("put next next zero void", [
            ((1, 0), (0, 0)), ((1, 1), (2, 0)), ((2, 1), (3, 0)), ((3, 1), (4, 0)), ((1, 2), (5, 0))])
        self.assertEqual(levels(PROGRAM, net), [(1, 3), (2, 2), (3, 1), (4, 0), (5, 0)])
        net = net_of("add zero next next zero", [
            ((1, 1), (0, 0)), ((1, 0), (2, 0)), ((1, 2), (3, 0)), ((3, 1), (4, 0)), ((4, 1), (5, 0))])
        self.assertEqual(levels(PROGRAM, net), [(1, 3), (2, 0), (3, 2), (4, 1), (5, 0)])

    def test_several_ways_to_one_piece(self):
        # A copy serves a taker by a short way and by a long one.
        net = net_of("add copy next next zero", [
            ((1, 1), (0, 0)), ((2, 0), (5, 0)), ((2, 1), (1, 0)), ((2, 2), (3, 1)), ((3, 0), (4, 1)), ((4, 0), (1, 2))])
        self.assertEqual(levels(PROGRAM, net), [(1, 4), (2, 1), (3, 2), (4, 3), (5, 0)])

    def test_rim_ends_are_no_pieces(self):
        net = net_of("next add copy", [
            ((1, 0), (0, 0)), ((1, 1), (2, 1)), ((2, 0), (3, 1)), ((2, 2), (3, 2)), ((3, 0), (0, 1))])
        self.assertEqual(levels(PROGRAM, net, ("nat",)), [(1, 2), (2, 1), (3, 0)])

    def test_without_pieces(self):
        self.assertEqual(levels(PROGRAM, ((), (((0, 0), (0, 1)),), 0), ("nat",)), [])

    def test_given_left_out_none_and_empty(self):
        net = woven(PROGRAM, ("next", "zero"))
        self.assertEqual(levels(PROGRAM, net), levels(PROGRAM, net, None))
        self.assertEqual(levels(PROGRAM, net), levels(PROGRAM, net, ()))

    def test_by_the_letter_at_a_toss(self):
        source = random.Random(132)
        for turn in range(100):
            program = some_program(source)
            for net, given in self.nets_with_given(source, program):
                found = dict(levels(program, net, given))
                self.assertEqual(list(found), [number for number, name in net[0]])
                givers = {number: [] for number in found}
                for giver, taker, kind in flows(program, net, given):
                    if giver[0] and taker[0]:
                        givers[taker[0]].append(giver[0])
                for piece in found:
                    self.assertEqual(found[piece], max([found[giver] + 1 for giver in givers[piece]], default=0))

    def nets_with_given(self, source, program):
        parts = {name: part for name, kind, part in program[1]}
        more = {taker[0]: taker[3] for taker in program[2]}
        for taker, maker, net in rules_of(program)[:len(program[3])]:
            yield tossed_numbers(source, net)[0], more[taker] + parts[maker]
        words = some_words(source, program, source.choice(program[0]), source.randrange(1, 40))
        yield tossed_numbers(source, woven(program, words))[0], None


class WhatFollows(unittest.TestCase):
    def kind_at_0(self, program, net, given=None):
        levels(program, net, given)
        return [kind for giver, taker, kind in flows(program, net, given) if taker == (0, 0)][0]

    def test_woven_terms(self):
        source = random.Random(133)
        for turn in range(100):
            program = some_program(source)
            words = some_words(source, program, source.choice(program[0]), source.randrange(1, 40))
            self.assertEqual(self.kind_at_0(program, woven(program, words)), kind_of(program, words))

    def test_the_nets_of_rules(self):
        source = random.Random(134)
        for turn in range(100):
            program = some_program(source)
            parts = {name: part for name, kind, part in program[1]}
            takers = {taker[0]: taker for taker in program[2]}
            for taker, maker, net in rules_of(program)[:len(program[3])]:
                given = takers[taker][3] + parts[maker]
                self.assertEqual(self.kind_at_0(program, net, given), takers[taker][1])

    def check_meetings(self, source, program, net, most=40):
        """Meeting by meeting, at a toss: flows, levels and the kind stay, nothing is stuck, the end is a value."""
        book, kind = book_of(program), self.kind_at_0(program, net)
        for step in range(most):
            self.assertEqual(stuck_pairs(book, net), [])
            ready = open_pairs(book, net)
            if not ready:
                self.assertEqual(kind_of(program, unwoven(program, net)), kind)
                return True
            net = met(book, net, *source.choice(ready))[0]
            self.assertEqual(self.kind_at_0(program, net), kind)
        return False

    def test_behind_each_meeting_of_a_woven_net(self):
        source = random.Random(135)
        ended = {True: 0, False: 0}
        for turn in range(120):
            program = some_program(source)
            words = some_words(source, program, source.choice(program[0]), source.randrange(1, 20))
            ended[self.check_meetings(source, program, woven(program, words))] += 1
        self.assertGreater(min(ended.values()), 15)

    def test_behind_each_meeting_of_other_nets(self):
        # A rule's net with closed terms on its rim: it has copies and drops, and is no woven closed term.
        source = random.Random(136)
        ended = 0
        for turn in range(150):
            program = some_program(source)
            parts = {name: part for name, kind, part in program[1]}
            more = {taker[0]: taker[3] for taker in program[2]}
            taker, maker, net = source.choice(rules_of(program)[:len(program[3])])
            for kind in more[taker] + parts[maker]:
                words = some_words(source, program, kind, source.randrange(1, 6))
                net = beside(net, woven(program, words))
                net = hooked(net, 1, rim(net) - 1)
            ended += self.check_meetings(source, program, net)
        self.assertGreater(ended, 50)

    def test_four_hundred_pieces_within_seconds(self):
        begin = time.monotonic()
        for words in (number(399), ("add",) * 199 + ("zero",) * 200, ("put", "zero") * 199 + ("void",)):
            net = woven(PROGRAM, words)
            self.assertEqual(self.kind_at_0(PROGRAM, net), kind_of(PROGRAM, words))
        self.assertEqual(levels(PROGRAM, woven(PROGRAM, number(399))), [(n, 400 - n) for n in range(1, 401)])
        # A row of copies, each of which gives to a drop and to the next.
        pieces = [(n, "copy") for n in range(1, 200)] + [(n, "drop") for n in range(200, 399)] + [(399, "zero")]
        ties = [((n, 1), (n + 199, 0)) for n in range(1, 200)] + [((n, 2), (n + 1, 0)) for n in range(1, 199)]
        net = made(STOCK, pieces, ties + [((1, 0), (399, 0)), ((199, 2), (0, 0))])
        self.assertEqual(self.kind_at_0(PROGRAM, net), "nat")
        self.assertLess(time.monotonic() - begin, 15)


if __name__ == "__main__":
    unittest.main()
