import random
import sys
import time
import unittest

from hookmill.errors import Spent
from hookmill.kinds import sound
from hookmill.plain import split, worth
from hookmill.texts import read
from helper import NATS, number, some_program, some_words

PROGRAM = sound(read(NATS))

# Names that come not at all, once, twice, three and four times; makers with the most parts, takers with the most
# further ones.
USES = sound(read("""kind a
maker leaf a
maker one a a
maker tri a a a a
taker none a a
taker twice a a
taker three a a
taker four a a a
taker most a a a a
rule none leaf = leaf
rule none one x = leaf
rule none tri x y z = y
rule twice leaf = leaf
rule twice one x = tri x x leaf
rule twice tri x y z = tri z z x
rule three leaf = leaf
rule three one x = tri x x x
rule three tri x y z = one x
rule four leaf b = tri b one b tri b b leaf
rule four one x b = one x
rule four tri x y z b = b
rule most leaf b c = one c
rule most one x b c = tri c b x
rule most tri x y z b c = tri b b c"""))


def slow_worth(program, words):
    """The value and the counts by the letter: parts first, then the rule's words with values in the place of names."""
    counts = [0, 0, 0]
    makers = {maker[0] for maker in program[1]}
    rules = {rule[:2]: rule for rule in program[3]}

    def value_of(words):
        if sum(counts) > 100:
            raise Spent("")
        parts = [value_of(part) for part in split(program, words)]
        if words[0] in makers:
            return words[:1] + sum(parts, ())
        rule = rules[(words[0], parts[0][0])]
        known = dict(zip(rule[2], split(program, parts[0]) + parts[1:]))
        counts[0] += 1
        for name, value in known.items():
            uses = rule[3].count(name)
            if uses > 1:
                counts[1] += (uses - 1) * len(value)
            if uses == 0:
                counts[2] += len(value)
        return value_of(sum([known.get(word, (word,)) for word in rule[3]], ()))

    return (value_of(words), *counts)


class Split(unittest.TestCase):
    def test_none(self):
        self.assertEqual(split(PROGRAM, ("zero",)), [])
        self.assertEqual(split(USES, ("leaf",)), [])

    def test_makers_and_takers(self):
        self.assertEqual(split(PROGRAM, ("next", "next", "zero")), [("next", "zero")])
        self.assertEqual(split(PROGRAM, ("put", "next", "zero", "put", "zero", "void")), [("next", "zero"), ("put", "zero", "void")])
        self.assertEqual(split(PROGRAM, ("add", "add", "zero", "zero", "next", "zero")), [("add", "zero", "zero"), ("next", "zero")])
        self.assertEqual(split(PROGRAM, ("sum", "void")), [("void",)])

    def test_the_most_parts(self):
        self.assertEqual(split(USES, ("tri", "one", "leaf", "leaf", "tri", "leaf", "leaf", "leaf")), [
            ("one", "leaf"), ("leaf",), ("tri", "leaf", "leaf", "leaf")])
        self.assertEqual(split(USES, ("most", "leaf", "one", "leaf", "none", "leaf")), [("leaf",), ("one", "leaf"), ("none", "leaf")])

    def test_it_is_a_list_of_tuples_of_the_askers_own(self):
        found = split(PROGRAM, ("next", "zero"))
        self.assertIsInstance(found, list)
        self.assertIsInstance(found[0], tuple)
        found.clear()
        self.assertEqual(split(PROGRAM, ("next", "zero")), [("zero",)])

    def test_at_a_toss(self):
        source = random.Random(91)
        for turn in range(200):
            program = some_program(source)
            words = some_words(source, program, source.choice(program[0]), source.randrange(1, 60))
            follow = {name: 1 + len(more) for name, kind, taken, more in program[2]}
            follow.update({name: len(parts) for name, kind, parts in program[1]})
            found = split(program, words)
            self.assertEqual(len(found), follow[words[0]])
            self.assertEqual(words[:1] + sum(found, ()), words)
            for part in found:
                self.assertEqual(sum(follow[word] - 1 for word in part), -1)
                self.assertTrue(all(sum(follow[word] - 1 for word in part[:count]) >= 0 for count in range(1, len(part))))

    def test_four_hundred_words(self):
        self.assertEqual(split(PROGRAM, number(399)), [number(398)])
        self.assertEqual(split(PROGRAM, ("add",) * 199 + ("zero",) * 200), [("add",) * 198 + ("zero",) * 199, ("zero",)])

    def test_by_name(self):
        self.assertEqual(split(program=PROGRAM, words=("zero",)), [])


class Worth(unittest.TestCase):
    def check(self, program, text, value, calls, copies, drops):
        words, told = tuple(text.split()), (tuple(value.split()), calls, copies, drops)
        self.assertEqual(worth(program, words), told)
        total = calls + copies + drops
        self.assertEqual(worth(program, words, total), told)
        if total:
            with self.assertRaises(Spent):
                worth(program, words, total - 1)

    def test_values_of_makers_alone(self):
        self.check(PROGRAM, "zero", "zero", 0, 0, 0)
        self.check(PROGRAM, "next next zero", "next next zero", 0, 0, 0)
        self.check(PROGRAM, "put next zero put zero void", "put next zero put zero void", 0, 0, 0)

    def test_calls(self):
        self.check(PROGRAM, "add zero zero", "zero", 1, 0, 0)
        self.check(PROGRAM, "add next next zero next zero", "next next next zero", 3, 0, 0)
        self.check(PROGRAM, "next add zero next zero", "next next zero", 1, 0, 0)
        self.check(PROGRAM, "sum put next zero put next next zero void", "next next next zero", 8, 0, 0)
        self.check(PROGRAM, "join put zero void put next zero void", "put zero put next zero void", 2, 0, 0)

    def test_drops_are_counted_by_words(self):
        self.check(PROGRAM, "mul zero next next zero", "zero", 1, 0, 3)
        self.check(USES, "none leaf", "leaf", 1, 0, 0)
        self.check(USES, "none one tri leaf leaf one leaf", "leaf", 1, 0, 5)
        self.check(USES, "none tri one leaf leaf one one leaf", "leaf", 1, 0, 5)

    def test_copies_are_counted_by_words(self):
        self.check(USES, "twice one one leaf", "tri one leaf one leaf leaf", 1, 2, 0)
        self.check(USES, "three one one leaf", "tri one leaf one leaf one leaf", 1, 4, 0)
        self.check(USES, "four leaf one one leaf", "tri one one leaf one one one leaf tri one one leaf one one leaf leaf", 1, 9, 0)
        self.check(USES, "twice tri leaf one leaf one one leaf", "tri one one leaf one one leaf leaf", 1, 3, 2)

    def test_further_ones(self):
        self.check(USES, "most leaf one leaf one one leaf", "one one one leaf", 1, 0, 2)
        self.check(USES, "most one leaf one leaf one one leaf", "tri one one leaf one leaf leaf", 1, 0, 0)
        self.check(USES, "most tri leaf leaf leaf one leaf leaf", "tri one leaf one leaf leaf", 1, 2, 3)

    def test_parts_have_their_worth_first(self):
        # The one that is dropped is called for all that, and what is copied is copied as a value.
        self.check(PROGRAM, "mul zero add next zero zero", "zero", 3, 0, 2)
        self.check(USES, "twice one none one leaf", "tri leaf leaf leaf", 2, 1, 1)
        self.check(USES, "none one twice one leaf", "leaf", 2, 1, 4)

    def test_calls_copies_and_drops_together(self):
        self.check(PROGRAM, "mul next next next zero next next zero", "next next next next next next zero", 13, 9, 3)

    def test_most_0(self):
        self.assertEqual(worth(PROGRAM, ("zero",), 0), (("zero",), 0, 0, 0))
        with self.assertRaises(Spent):
            worth(PROGRAM, ("add", "zero", "zero"), 0)

    def test_most_left_out_is_400(self):
        self.assertEqual(worth(PROGRAM, ("add",) + number(398 // 2) + ("zero",))[1], 200)
        loop = sound(read("kind a\nmaker m a\nmaker n a a\ntaker t a a a\nrule t m x = x\nrule t n y x = t y n x"))
        deep = ("t",) + ("n",) * 396 + ("m", "m")
        self.assertEqual(worth(loop, deep), (("n",) * 396 + ("m",), 397, 0, 0))
        self.assertEqual(worth(loop, ("t",) + ("n",) * 399 + ("m", "m"))[1], 400)
        with self.assertRaises(Spent):
            worth(loop, ("t",) + ("n",) * 400 + ("m", "m"))
        self.assertEqual(worth(loop, ("t",) + ("n",) * 400 + ("m", "m"), 401)[1], 401)

    def test_no_end(self):
        endless = sound(read("kind a\nmaker m a\nmaker n a a\ntaker t a a\nrule t m = t m\nrule t n x = n t n x"))
        for most in (0, 1, 400, 2000):
            for words in (("t", "m"), ("t", "n", "m")):
                with self.assertRaises(Spent):
                    worth(endless, words, most)

    def test_copies_without_end(self):
        doubling = sound(read("kind a\nmaker m a\nmaker n a a a\ntaker t a a\nrule t m = t n m m\nrule t n x y = t n n x y n x y"))
        with self.assertRaises(Spent):
            worth(doubling, ("t", "m"), 2000)

    def test_by_the_letter_at_a_toss(self):
        source = random.Random(92)
        self.addCleanup(sys.setrecursionlimit, sys.getrecursionlimit())
        sys.setrecursionlimit(20000)
        counts = {"spent": 0, "told": 0, "long": 0}
        for turn in range(600):
            program = some_program(source)
            words = some_words(source, program, source.choice(program[0]), source.randrange(1, 25))
            try:
                known = slow_worth(program, words)
            except Spent:
                counts["spent"] += 1
                with self.assertRaises(Spent):
                    worth(program, words, 100)
                continue
            counts["told"] += 1
            total = sum(known[1:])
            counts["long"] += total > 10
            self.assertEqual(worth(program, words, total), known)
            self.assertEqual(worth(program, words, total + 5), known)
            if total:
                with self.assertRaises(Spent):
                    worth(program, words, total - 1)
        self.assertGreater(min(counts.values()), 50)

    def test_by_name(self):
        self.assertEqual(worth(program=PROGRAM, words=("zero",), most=0), (("zero",), 0, 0, 0))


class Long(unittest.TestCase):
    def test_near_the_bound(self):
        begin = time.monotonic()
        words = ("mul",) + number(28) + number(30)
        value, calls, copies, drops = worth(PROGRAM, words, 2000)
        self.assertEqual((value, calls, copies, drops), (number(28 * 30), 29 + 28 * 31, 28 * 31, 31))
        total = calls + copies + drops
        self.assertEqual(total, 1796)
        self.assertEqual(worth(PROGRAM, words, total)[0], value)
        with self.assertRaises(Spent):
            worth(PROGRAM, words, total - 1)
        self.assertLess(time.monotonic() - begin, 10)

    def test_four_hundred_words_nested_as_deep_as_they_can_be(self):
        self.assertEqual(worth(PROGRAM, number(399)), (number(399), 0, 0, 0))
        self.assertEqual(worth(PROGRAM, ("add",) * 199 + ("zero",) * 200), (("zero",), 199, 0, 0))
        self.assertEqual(worth(PROGRAM, ("add", "zero") * 199 + ("zero",)), (("zero",), 199, 0, 0))
        self.assertEqual(worth(PROGRAM, ("put", "zero") * 199 + ("void",))[1:], (0, 0, 0))
        self.assertEqual(worth(USES, ("none",) * 399 + ("leaf",)), (("leaf",), 399, 0, 0))
        self.assertEqual(worth(PROGRAM, ("sum",) + ("put", "zero") * 199 + ("void",)), (("zero",), 399, 0, 0))

    def test_calls_within_calls_hundreds_deep(self):
        deep = sound(read("kind a\nmaker m a\nmaker n a a\ntaker t a a a\nrule t m x = x\nrule t n y x = n t y x"))
        words = ("t", "t", "t") + ("n",) * 390 + ("m",) * 4
        self.assertEqual(worth(deep, words, 2000), (("n",) * 390 + ("m",), 3 * 391, 0, 0))

    def test_great_values(self):
        # Each call adds forty words: two thousand calls.
        rule = "rule t n y x = t y " + "n " * 37 + "x"
        great = sound(read("kind a\nmaker m a\nmaker n a a\ntaker t a a a\nrule t m x = x\n" + rule))
        begin = time.monotonic()
        value, calls, copies, drops = worth(great, ("t",) + ("n",) * 1990 + ("m", "m"), 2000)
        self.assertEqual((len(value), calls, copies, drops), (1990 * 37 + 1, 1991, 0, 0))
        self.assertLess(time.monotonic() - begin, 10)


if __name__ == "__main__":
    unittest.main()
