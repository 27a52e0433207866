import random
import unittest

from hookmill.errors import BadKind, Lacking, NoName, NoTerm, Twice
from hookmill.kinds import kind_of, sound, term, walked
from hookmill.texts import read
from helper import NATS, number, some_program, some_words

PROGRAM = read(NATS)
EMPTY = ((), (), (), ())


class KindsCase(unittest.TestCase):
    def refused(self, kind, word, asked, *given):
        with self.assertRaises(kind) as caught:
            asked(*given)
        self.assertIs(type(caught.exception), kind)
        self.assertEqual(caught.exception.word, word)


class Walked(KindsCase):
    def passes(self, words, wanted, known=None):
        self.assertIsNone(walked(PROGRAM, tuple(words.split()), wanted, known or {}))

    def fails(self, kind, word, words, wanted, known=None):
        self.refused(kind, word, walked, PROGRAM, tuple(words.split()), wanted, known or {})

    def test_ordinary(self):
        self.passes("zero", "nat")
        self.passes("next next zero", "nat")
        self.passes("add next zero zero", "nat")
        self.passes("put add zero zero join void put zero void", "list")
        self.passes("sum put zero put next zero void", "nat")

    def test_variables(self):
        self.passes("x", "nat", {"x": "nat"})
        self.passes("put x join l put x l", "list", {"x": "nat", "l": "list", "unused": "nat"})
        self.passes("zero", "nat", {"x": "list"})

    def test_no_words(self):
        self.fails(BadKind, "", "", "nat")
        self.fails(BadKind, "", "", "list", {"x": "list"})
        self.refused(BadKind, "", walked, EMPTY, (), "nat", {})

    def test_nothing_wanted_any_more(self):
        self.fails(BadKind, "void", "zero void", "nat")
        self.fails(BadKind, "zero", "zero zero", "nat")
        self.fails(BadKind, "x", "x x", "nat", {"x": "nat"})
        self.fails(BadKind, "next", "add zero zero next nut", "nat")

    def test_nothing_wanted_comes_ahead_of_no_name(self):
        self.fails(BadKind, "nut", "zero nut", "nat")
        self.fails(BadKind, "nut", "put zero void nut", "list")

    def test_no_name(self):
        self.fails(NoName, "nut", "nut", "nat")
        self.fails(NoName, "nut", "next nut", "nat")
        self.fails(NoName, "nut", "put zero nut", "list")
        self.fails(NoName, "x", "add x y", "nat")
        self.fails(NoName, "y", "add x y", "nat", {"x": "nat"})

    def test_kinds_copy_and_drop_are_no_words(self):
        for word in ("nat", "list", "copy", "drop"):
            self.fails(NoName, word, word, "nat")
            self.fails(NoName, word, "next " + word, "nat")

    def test_no_name_comes_ahead_of_another_kind_behind_it(self):
        self.fails(NoName, "nut", "nut void", "nat")
        self.fails(NoName, "nut", "next nut zero zero", "nat")

    def test_another_kind(self):
        self.fails(BadKind, "zero", "zero", "list")
        self.fails(BadKind, "void", "next void", "nat")
        self.fails(BadKind, "void", "put void void", "list")
        self.fails(BadKind, "zero", "put zero zero", "list")
        self.fails(BadKind, "sum", "join sum void void", "list")
        self.fails(BadKind, "x", "next x", "nat", {"x": "list"})
        self.fails(BadKind, "zero", "sum zero", "nat")
        self.fails(BadKind, "zero", "zero nut", "list")

    def test_a_kind_still_wanted_behind_all_words(self):
        self.fails(BadKind, "", "next", "nat")
        self.fails(BadKind, "", "add zero", "nat")
        self.fails(BadKind, "", "put", "list")
        self.fails(BadKind, "", "put next zero", "list")

    def test_the_first_word_that_fails(self):
        self.fails(BadKind, "void", "add void nut", "nat")
        self.fails(NoName, "nut", "add nut void", "nat")
        self.fails(BadKind, "void", "add zero void zero", "nat")

    def test_what_follows_a_word_comes_ahead_of_the_others(self):
        self.passes("join put zero void put zero void", "list")
        self.fails(BadKind, "zero", "join put zero zero", "list")

    def test_rules_and_what_is_handed_in_do_not_matter(self):
        known = {"x": "nat"}
        self.assertIsNone(walked(PROGRAM[:3] + ((),), ("add", "x", "x"), "nat", known))
        self.assertEqual(known, {"x": "nat"})
        with self.assertRaises(NoName):
            walked(PROGRAM, ("add", "x", "y"), "nat", known)
        self.assertEqual(known, {"x": "nat"})

    def test_four_hundred_words(self):
        self.assertIsNone(walked(PROGRAM, number(399), "nat", {}))
        self.assertIsNone(walked(PROGRAM, ("add",) * 199 + ("zero",) * 200, "nat", {}))
        self.refused(BadKind, "", walked, PROGRAM, ("add",) * 399, "nat", {})

    def test_by_name(self):
        self.assertIsNone(walked(program=PROGRAM, words=("x",), wanted="nat", known={"x": "nat"}))


KINDS = "kind nat\nkind list\n"
HEADS = "kind nat\nkind list\nmaker zero nat\nmaker next nat nat\nmaker void list\ntaker add nat nat nat\ntaker len nat list\n"
RULES = "rule add zero m = m\nrule add next n m = next add n m\nrule len void = zero\n"

# Each row: the error's class, the word that it keeps, the program's text.
FAULTS = [
    # Kinds.
    (Twice, "nat", "kind nat\nkind nat"),
    (Twice, "b", "kind a\nkind b\nkind c\nkind b\nkind a"),
    (Twice, "copy", "kind copy"),
    (Twice, "drop", "kind nat\nkind drop"),
    # Makers.
    (Twice, "nat", "kind nat\nmaker nat nat"),
    (Twice, "zero", KINDS + "maker zero nat\nmaker zero nat"),
    (Twice, "zero", KINDS + "maker zero nat\nmaker zero list"),
    (Twice, "copy", KINDS + "maker copy nat"),
    (Twice, "drop", KINDS + "maker drop nat"),
    (NoName, "nut", KINDS + "maker zero nut"),
    (NoName, "nut", KINDS + "maker next nat nut"),
    (NoName, "nut", KINDS + "maker next nat nat nut"),
    (NoName, "nut", KINDS + "maker next nat nat list nut"),
    (NoName, "zero", KINDS + "maker zero zero"),
    (NoName, "zero", KINDS + "maker zero nat\nmaker next nat zero"),
    (NoName, "copy", KINDS + "maker zero copy"),
    # Takers.
    (Twice, "nat", KINDS + "taker nat nat nat"),
    (Twice, "zero", KINDS + "maker zero nat\ntaker zero nat nat"),
    (Twice, "add", KINDS + "taker add nat nat\ntaker add nat nat"),
    (Twice, "copy", KINDS + "taker copy nat nat"),
    (Twice, "drop", KINDS + "taker drop nat nat"),
    (NoName, "nut", KINDS + "taker add nut nat"),
    (NoName, "nut", KINDS + "taker add nat nut"),
    (NoName, "nut", KINDS + "taker add nat nat nut"),
    (NoName, "nut", KINDS + "taker add nat nat nat nut"),
    (NoName, "add", KINDS + "taker add nat nat add"),
    # The heads of rules.
    (NoName, "nut", HEADS + RULES + "rule nut zero = zero"),
    (NoName, "zero", HEADS + RULES + "rule zero zero = zero"),
    (NoName, "nat", HEADS + RULES + "rule nat zero = zero"),
    (NoName, "copy", HEADS + RULES + "rule copy zero = zero"),
    (NoName, "nut", HEADS + RULES + "rule add nut m = m"),
    (NoName, "add", HEADS + RULES + "rule add add m = m"),
    (NoName, "nat", HEADS + RULES + "rule add nat m = m"),
    (BadKind, "void", HEADS + RULES + "rule add void m = m"),
    (BadKind, "zero", HEADS + RULES + "rule len zero = zero"),
    (Twice, "add", HEADS + RULES + "rule add zero m = m"),
    (Twice, "add", HEADS + RULES + "rule add next n m = zero"),
    # The names of rules.
    (BadKind, "add", HEADS + "rule add zero = zero"),
    (BadKind, "add", HEADS + "rule add zero m n = zero"),
    (BadKind, "add", HEADS + "rule add next m = zero"),
    (BadKind, "add", HEADS + "rule add next m n o = zero"),
    (BadKind, "len", HEADS + "rule len void m = zero"),
    (Twice, "nat", HEADS + "rule add zero nat = zero"),
    (Twice, "next", HEADS + "rule add zero next = zero"),
    (Twice, "add", HEADS + "rule add zero add = zero"),
    (Twice, "len", HEADS + "rule add zero len = zero"),
    (Twice, "copy", HEADS + "rule add zero copy = zero"),
    (Twice, "drop", HEADS + "rule add next n drop = zero"),
    (Twice, "m", HEADS + "rule add next m m = zero"),
    # The words of rules.
    (NoName, "nut", HEADS + "rule add zero m = nut"),
    (NoName, "n", HEADS + "rule add zero m = add m n"),
    (NoName, "copy", HEADS + "rule add zero m = copy"),
    (NoName, "nat", HEADS + "rule add zero m = nat"),
    (BadKind, "void", HEADS + "rule add zero m = void"),
    (BadKind, "void", HEADS + "rule add zero m = next void"),
    (BadKind, "m", HEADS + "rule add zero m = len m"),
    (BadKind, "zero", HEADS + "rule add zero m = m zero"),
    (BadKind, "nut", HEADS + "rule add zero m = m nut"),
    (BadKind, "", HEADS + "rule add zero m = next"),
    (BadKind, "", HEADS + "rule add zero m = add m"),
]

# Each row: the error's class, what it keeps, a text with two faults, of which the first one is told.
TWO_FAULTS = [
    # Kinds come ahead of makers, these ahead of takers, these ahead of rules, whatever the order of rows.
    (Twice, "nat", "maker zero nut\nkind nat\nkind nat"),
    (Twice, "nat", "rule nut nut = nut\ntaker add nut nut\nmaker zero nut\nkind nat\nkind nat"),
    (NoName, "nut", "taker add nat nat\ntaker add nat nat\nkind nat\nmaker zero nut"),
    (NoName, "nut", "rule a b = c\ntaker add nat nut\nkind nat"),
    (Twice, "add", "rule a b = c\ntaker add nat nat\nmaker add nat\nkind nat"),
    # Within one maker and one taker.
    (Twice, "nat", "kind nat\nmaker nat nut"),
    (NoName, "one", "kind nat\nmaker zero one two"),
    (NoName, "two", "kind nat\nmaker zero nat two three"),
    (Twice, "drop", "kind nat\ntaker drop nut nut"),
    (NoName, "one", "kind nat\ntaker add one two three"),
    (NoName, "two", "kind nat\ntaker add nat two three"),
    (NoName, "three", "kind nat\ntaker add nat nat three four"),
    # One maker ahead of the next.
    (NoName, "nut", "kind nat\nmaker zero nut\nmaker nat nat"),
    (Twice, "nat", "kind nat\nmaker nat nat\nmaker zero nut"),
    # Within one rule.
    (NoName, "one", HEADS + "rule one two = three"),
    (NoName, "two", HEADS + "rule add two = three"),
    (BadKind, "void", HEADS + RULES + "rule add void = three"),
    (BadKind, "void", HEADS + "rule add void m = m\nrule add void m = m"),
    (Twice, "add", HEADS + RULES + "rule add zero = three"),
    (Twice, "add", HEADS + RULES + "rule add zero nat = three"),
    (BadKind, "add", HEADS + "rule add zero nat nat = three"),
    (Twice, "nat", HEADS + "rule add zero nat = three"),
    (Twice, "m", HEADS + "rule add next m m = three"),
    (Twice, "next", HEADS + "rule add next next zero = three"),
    # One rule ahead of the next, and of what is lacking.
    (NoName, "three", HEADS + "rule add zero m = three\nrule nut zero = zero"),
    (Twice, "m", HEADS + "rule add next m m = m\nrule add zero m = three"),
    (BadKind, "", HEADS + "rule add zero m = next"),
]


class Sound(KindsCase):
    def test_ordinary(self):
        self.assertEqual(sound(PROGRAM), read(NATS))
        self.assertIs(sound(PROGRAM), PROGRAM)
        self.assertEqual(sound(read(HEADS + RULES)), read(HEADS + RULES))

    def test_the_program_of_nothing(self):
        self.assertEqual(sound(EMPTY), EMPTY)
        self.assertEqual(sound(read("kind a")), read("kind a"))

    def test_each_fault(self):
        for kind, word, text in FAULTS:
            with self.subTest(text=text):
                self.refused(kind, word, sound, read(text))

    def test_which_of_two_faults(self):
        for kind, word, text in TWO_FAULTS:
            with self.subTest(text=text):
                self.refused(kind, word, sound, read(text))

    def test_makers_and_takers_told_ahead_of_kinds(self):
        text = "rule len void = zero\ntaker len nat list\nmaker void list\nmaker zero nat\nkind list\nkind nat"
        self.assertEqual(sound(read(text)), read(text))

    def test_rules_told_in_any_order(self):
        source = random.Random(81)
        for turn in range(20):
            rules = list(PROGRAM[3])
            source.shuffle(rules)
            program = PROGRAM[:3] + (tuple(rules),)
            self.assertEqual(sound(program), program)

    def test_names_stand_for_parts_then_for_further_ones(self):
        text = "kind a\nkind b\nkind c\nmaker one a\nmaker two b\nmaker tri c b a\ntaker t {} c a\nrule t tri x y z = {}\n"
        for kind, word in (("b", "x"), ("a", "y"), ("a", "z")):
            program = read(text.format(kind, word))
            self.assertEqual(sound(program), program)
        for kind, word in (("a", "x"), ("b", "y"), ("b", "z"), ("c", "x")):
            self.refused(BadKind, word, sound, read(text.format(kind, word)))

    def test_names_of_one_rule_are_free_in_another(self):
        text = HEADS + "rule add next m n = add m n\nrule add zero n = n\nrule len void = zero"
        self.assertEqual(sound(read(text)), read(text))

    def test_names_of_another_rule_are_no_variables(self):
        self.refused(NoName, "n", sound, read(HEADS + "rule add next n m = n\nrule add zero m = n"))

    def lacking(self, taker, maker, text):
        with self.assertRaises(Lacking) as caught:
            sound(read(text))
        self.assertEqual((caught.exception.taker, caught.exception.maker), (taker, maker))

    def test_lacking(self):
        self.lacking("add", "zero", HEADS)
        self.lacking("add", "next", HEADS + "rule add zero m = m")
        self.lacking("add", "zero", HEADS + "rule add next n m = m")
        self.lacking("len", "void", HEADS + "rule add next n m = m\nrule add zero m = m")
        self.lacking("add", "next", HEADS + "rule len void = zero\nrule add zero m = m")

    def test_lacking_by_takers_then_by_makers_in_order(self):
        heads = "kind a\nmaker {} a\nmaker {} a\ntaker {} a a\ntaker {} a a\n"
        self.lacking("s", "n", heads.format("n", "m", "s", "t"))
        self.lacking("t", "m", heads.format("m", "n", "t", "s"))
        self.lacking("s", "m", heads.format("n", "m", "s", "t") + "rule s n = n")
        self.lacking("t", "n", heads.format("n", "m", "s", "t") + "rule s n = n\nrule s m = m")

    def test_makers_of_other_kinds_need_no_rule(self):
        text = "kind a\nkind b\nmaker x a\nmaker y b\ntaker t b a\nrule t x = y"
        self.assertEqual(sound(read(text)), read(text))
        text = "kind a\nkind b\nmaker y b\ntaker t b a"
        self.assertEqual(sound(read(text)), read(text))

    def test_at_a_toss(self):
        source = random.Random(82)
        for turn in range(100):
            program = some_program(source)
            self.assertIs(sound(program), program)
            left_out = source.randrange(len(program[3]))
            rules = program[3][:left_out] + program[3][left_out + 1:]
            with self.assertRaises(Lacking) as caught:
                sound(program[:3] + (rules,))
            self.assertEqual((caught.exception.taker, caught.exception.maker), program[3][left_out][:2])

    def test_by_name(self):
        self.assertEqual(sound(program=EMPTY), EMPTY)


class Term(KindsCase):
    def test_ordinary(self):
        self.assertEqual(term(PROGRAM, "zero"), ("zero",))
        self.assertEqual(term(PROGRAM, "add next zero zero"), ("add", "next", "zero", "zero"))
        self.assertEqual(term(PROGRAM, "put zero void"), ("put", "zero", "void"))

    def test_no_term(self):
        for text in ("", " ", "zero ", " zero", "next  zero", "Zero", "next Zero", "next zero!", "zero\n", "next\nzero", "zer0",
                     "overnines", "next overnines", "next\tzero", "=", "next = zero", "nut nut!", "zero zero ", "\n"):
            with self.subTest(text=text):
                with self.assertRaises(NoTerm):
                    term(PROGRAM, text)

    def test_sixty_and_sixty_one_names(self):
        self.assertEqual(term(PROGRAM, " ".join(number(59))), number(59))
        with self.assertRaises(NoTerm):
            term(PROGRAM, " ".join(number(60)))
        with self.assertRaises(NoTerm):
            term(PROGRAM, " ".join(["nut"] * 61))
        self.refused(NoName, "nut", term, PROGRAM, " ".join(["nut"] * 60))

    def test_an_unknown_first_word(self):
        for word in ("nut", "nat", "copy", "drop", "x"):
            self.refused(NoName, word, term, PROGRAM, word)
            self.refused(NoName, word, term, PROGRAM, word + " zero void")
        self.refused(NoName, "zero", term, EMPTY, "zero")

    def test_refusals_behind_it(self):
        self.refused(NoName, "nut", term, PROGRAM, "next nut")
        self.refused(NoName, "m", term, PROGRAM, "add zero m")
        self.refused(BadKind, "void", term, PROGRAM, "next void")
        self.refused(BadKind, "zero", term, PROGRAM, "zero zero")
        self.refused(BadKind, "nut", term, PROGRAM, "zero nut")
        self.refused(BadKind, "", term, PROGRAM, "next")
        self.refused(BadKind, "", term, PROGRAM, "put zero")
        self.refused(BadKind, "zero", term, PROGRAM, "put zero zero")

    def test_kind_of(self):
        for text, kind in (("zero", "nat"), ("next zero", "nat"), ("void", "list"), ("put zero void", "list"),
                           ("sum void", "nat"), ("join void void", "list")):
            self.assertEqual(kind_of(PROGRAM, term(PROGRAM, text)), kind)

    def test_at_a_toss(self):
        source = random.Random(83)
        for turn in range(200):
            program = some_program(source)
            kind = source.choice(program[0])
            words = some_words(source, program, kind, source.randrange(1, 30))
            self.assertEqual(kind_of(program, words), kind)
            if len(words) <= 60:
                self.assertEqual(term(program, " ".join(words)), words)

    def test_by_name(self):
        self.assertEqual(term(program=PROGRAM, text="zero"), ("zero",))
        self.assertEqual(kind_of(program=PROGRAM, words=("zero",)), "nat")


if __name__ == "__main__":
    unittest.main()
