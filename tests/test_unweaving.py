import random
import unittest

from hookmill.errors import NoValue
from hookmill.kinds import sound
from hookmill.nets import made
from hookmill.plain import worth
from hookmill.runs import run
from hookmill.texts import read
from hookmill.unweaving import unwoven
from hookmill.weaving import book_of, stock_of, woven
from helper import NATS, NOTHING, number, some_program, some_words, tossed_numbers

PROGRAM = sound(read(NATS))
STOCK = stock_of(PROGRAM)


class Unwoven(unittest.TestCase):
    def back(self, program, words):
        net = woven(program, words)
        self.assertEqual(unwoven(program, net), words)
        self.assertEqual(unwoven(program, tossed_numbers(random.Random(111), net)[0]), words)

    def test_back_from_woven(self):
        for text in ("zero", "next zero", "void", "put zero void", "put next zero put zero put next next zero void"):
            self.back(PROGRAM, tuple(text.split()))

    def test_four_hundred_words(self):
        self.back(PROGRAM, number(399))
        self.back(PROGRAM, ("put", "zero") * 199 + ("void",))
        wide = sound(read("kind a\nmaker m a\nmaker t a a a a"))
        self.back(wide, ("t", "m", "m") * 133 + ("m",))
        self.back(wide, ("t",) * 133 + ("m",) * 267)

    def test_at_a_toss(self):
        source = random.Random(112)
        for turn in range(200):
            program = some_program(source)
            makers_alone = program[:2] + ((), ())
            self.back(program, some_words(source, makers_alone, source.choice(program[0]), source.randrange(1, 60)))

    def test_numbers_in_any_order(self):
        source = random.Random(113)
        words = tuple("put next zero put zero put next next zero void".split())
        for turn in range(50):
            self.assertEqual(unwoven(PROGRAM, tossed_numbers(source, woven(PROGRAM, words), 40)[0]), words)

    def test_behind_a_run(self):
        words = ("sum", "put") + number(2) + ("put",) + number(3) + ("void",)
        self.assertEqual(unwoven(PROGRAM, run(book_of(PROGRAM), woven(PROGRAM, words), [5, 1])[1]), worth(PROGRAM, words)[0])

    def test_by_name(self):
        self.assertEqual(unwoven(program=PROGRAM, net=woven(PROGRAM, ("zero",))), ("zero",))


class NoValues(unittest.TestCase):
    def refused(self, names, ties, rings=0, program=PROGRAM):
        net = made(stock_of(program), list(enumerate(names.split(), 1)), ties, rings)
        with self.assertRaises(NoValue):
            unwoven(program, net)

    def test_a_taker_left(self):
        for text in ("sum void", "add zero zero", "next add zero zero", "put zero join void void", "put sum void void"):
            net = woven(PROGRAM, tuple(text.split()))
            with self.assertRaises(NoValue):
                unwoven(PROGRAM, net)

    def test_a_taker_tied_like_a_maker(self):
        self.refused("sum zero", [((1, 0), (0, 0)), ((1, 1), (2, 0))])
        self.refused("next sum zero", [((1, 0), (0, 0)), ((1, 1), (2, 0)), ((2, 1), (3, 0))])

    def test_a_copy_left(self):
        self.refused("put copy zero void drop", [
            ((1, 0), (0, 0)), ((1, 1), (2, 1)), ((2, 0), (3, 0)), ((2, 2), (5, 0)), ((1, 2), (4, 0))])
        self.refused("copy zero drop", [((1, 1), (0, 0)), ((1, 0), (2, 0)), ((1, 2), (3, 0))])
        self.refused("copy zero void", [((1, 0), (0, 0)), ((1, 1), (2, 0)), ((1, 2), (3, 0))])

    def test_a_drop_left(self):
        self.refused("drop", [((1, 0), (0, 0))])
        self.refused("next drop", [((1, 0), (0, 0)), ((1, 1), (2, 0))])
        self.refused("zero drop zero", [((1, 0), (0, 0)), ((2, 0), (3, 0))])

    def test_rings(self):
        self.refused("zero", [((1, 0), (0, 0))], 1)
        self.refused("next zero", [((1, 0), (0, 0)), ((1, 1), (2, 0))], 10 ** 59)

    def test_no_rim_end(self):
        self.refused("", [])
        self.refused("zero zero", [((1, 0), (2, 0))])
        self.refused("next", [((1, 0), (1, 1))])
        with self.assertRaises(NoValue):
            unwoven(PROGRAM, NOTHING)

    def test_more_rim_ends(self):
        self.refused("zero zero", [((1, 0), (0, 0)), ((2, 0), (0, 1))])
        self.refused("next", [((1, 0), (0, 0)), ((1, 1), (0, 1))])
        self.refused("next", [((1, 0), (0, 1)), ((1, 1), (0, 0))])
        self.refused("", [((0, 0), (0, 1))])
        self.refused("zero", [((1, 0), (0, 0)), ((0, 1), (0, 2))])

    def test_pieces_beside(self):
        self.refused("zero zero zero", [((1, 0), (0, 0)), ((2, 0), (3, 0))])
        self.refused("zero sum void drop", [((1, 0), (0, 0)), ((2, 0), (3, 0)), ((2, 1), (4, 0))])

    def test_makers_tied_in_a_ring(self):
        self.refused("zero next", [((1, 0), (0, 0)), ((2, 0), (2, 1))])
        self.refused("zero next next", [((1, 0), (0, 0)), ((2, 0), (3, 1)), ((3, 0), (2, 1))])
        self.refused("next next next", [((1, 0), (1, 1)), ((2, 0), (3, 1)), ((3, 0), (2, 1))])

    def test_two_chief_hooks_tied(self):
        self.refused("next zero", [((1, 0), (2, 0)), ((1, 1), (0, 0))])
        self.refused("put next void zero", [((1, 0), (2, 0)), ((1, 1), (0, 0)), ((1, 2), (3, 0)), ((2, 1), (4, 0))])
        self.refused("next zero zero zero", [((1, 0), (0, 0)), ((1, 1), (2, 0)), ((3, 0), (4, 0))])

    def test_two_side_hooks_tied(self):
        self.refused("next next zero", [((1, 0), (0, 0)), ((1, 1), (2, 1)), ((2, 0), (3, 0))])
        self.refused("put", [((1, 0), (0, 0)), ((1, 1), (1, 2))])

    def test_kinds_that_do_not_fit(self):
        self.refused("next void", [((1, 0), (0, 0)), ((1, 1), (2, 0))])
        self.refused("put void zero", [((1, 0), (0, 0)), ((1, 1), (2, 0)), ((1, 2), (3, 0))])
        self.refused("put void void", [((1, 0), (0, 0)), ((1, 1), (2, 0)), ((1, 2), (3, 0))])

    def test_at_a_toss_just_the_woven_ones(self):
        # Four pieces, their hooks tied at a toss: it is refused, or woven anew it is alike.
        source = random.Random(114)
        program = sound(read("kind a\nmaker m a\nmaker n a a"))
        told = 0
        for turn in range(2000):
            names = [(number, source.choice(("m", "n", "n"))) for number in range(1, source.randrange(2, 5))]
            ends = [(number, hook) for number, name in names for hook in range(1 + (name == "n"))] + [(0, 0)]
            if len(ends) % 2:
                continue
            source.shuffle(ends)
            net = made(stock_of(program), names, list(zip(ends[::2], ends[1::2])))
            order = [dict(names)[number] for number in self.along(net)]
            known = len(order) == len(names) and order[-1] == "m"
            told += known
            if known:
                self.assertEqual(unwoven(program, net), tuple(order))
            else:
                with self.assertRaises(NoValue):
                    unwoven(program, net)
        self.assertGreater(told, 50)

    def along(self, net):
        """The pieces from rim end 0 on, from a chief hook to the side hook of the same piece."""
        mates = {end: far for tie in net[1] for end, far in (tie, tie[::-1])}
        found, end = [], (0, 0)
        while end in mates and mates[end][1] == 0 and mates[end][0] != 0:
            found.append(mates[end][0])
            end = (mates[end][0], 1)
        return found if end not in mates else []


if __name__ == "__main__":
    unittest.main()
