import random
import time
import unittest

from hookmill.errors import BadKind, BadRow, Lacking, NoName, NoTerm, Spent, Twice
from hookmill.runs import rounds
from hookmill.texts import read, shown
from hookmill.weaving import book_of, woven
from hookmill.whole import ground, ground_in_rounds, reckoned
from helper import NATS, number, some_program, some_words

ALL = (ground, ground_in_rounds, reckoned)
LOOP = "kind a\nmaker m a\nmaker n a a\ntaker t a a a\nrule t m x = x\nrule t n y x = t y n x"
ENDLESS = "kind a\nmaker m a\ntaker t a a\nrule t m = t m"
ORDERS = (None, [], [0], [1], [-1], [3, 1, 4, 1, 5], [10 ** 50, -10 ** 50], [-7, 10 ** 5000])


def text_of(words):
    return " ".join(words)


class WholeCase(unittest.TestCase):
    def same(self, text, term_text, told):
        """All three tell this, whatever the order, with just enough and not with one less."""
        total = sum(told[1:])
        self.assertEqual(reckoned(text, term_text, total), told)
        self.assertEqual(ground_in_rounds(text, term_text, total)[:4], told)
        for order in ORDERS:
            self.assertEqual(ground(text, term_text, order, total), told)
            if total:
                with self.assertRaises(Spent):
                    ground(text, term_text, order, total - 1)
        for asked in (reckoned, ground_in_rounds):
            if total:
                with self.assertRaises(Spent):
                    asked(text, term_text, total - 1)

    def refused(self, kind, text, term_text, **kept):
        for asked in ALL:
            with self.assertRaises(kind) as caught:
                asked(text, term_text)
            self.assertIs(type(caught.exception), kind)
            self.assertEqual({name: getattr(caught.exception, name) for name in kept}, kept)


class Ground(WholeCase):
    def test_values(self):
        self.same(NATS, "zero", ("zero", 0, 0, 0))
        self.same(NATS, "put next zero void", ("put next zero void", 0, 0, 0))

    def test_calls_copies_and_drops(self):
        self.same(NATS, "add next zero next zero", ("next next zero", 2, 0, 0))
        self.same(NATS, "mul zero next next zero", ("zero", 1, 0, 3))
        self.same(NATS, "mul next next next zero next next zero", ("next next next next next next zero", 13, 9, 3))
        self.same(NATS, "sum put next zero put mul next next zero next next zero void", ("next next next next next zero", 19, 6, 3))
        self.same(NATS, "mul zero add next zero zero", ("zero", 3, 0, 2))

    def test_rounds_are_the_last(self):
        self.assertEqual(ground_in_rounds(NATS, "zero"), ("zero", 0, 0, 0, 0))
        self.assertEqual(ground_in_rounds(NATS, "add zero zero"), ("zero", 1, 0, 0, 1))
        self.assertEqual(ground_in_rounds(NATS, "add next next zero zero"), ("next next zero", 3, 0, 0, 3))
        # Two additions within lists are done side by side.
        self.assertEqual(ground_in_rounds(NATS, "put add next zero zero put add next zero zero void")[1:], (4, 0, 0, 2))

    def test_the_number_of_rounds(self):
        source = random.Random(141)
        for turn in range(60):
            program = some_program(source)
            words = some_words(source, program, source.choice(program[0]), 12)
            at_an_end, net, found = rounds(book_of(program), woven(program, words), 60)
            if at_an_end and len(words) <= 60:
                self.assertEqual(ground_in_rounds(shown(program), text_of(words), 60)[4], len(found))

    def test_many_programs_terms_and_orders(self):
        source = random.Random(142)
        counts = {"spent": 0, "told": 0, "long": 0}
        for turn in range(250):
            program = some_program(source)
            words = some_words(source, program, source.choice(program[0]), source.randrange(1, 25))
            text, term_text = shown(program), text_of(words[:60])
            if len(words) > 60:
                continue
            try:
                told = reckoned(text, term_text, 80)
            except Spent:
                counts["spent"] += 1
                for order in ORDERS[:4]:
                    with self.assertRaises(Spent):
                        ground(text, term_text, order, 80)
                with self.assertRaises(Spent):
                    ground_in_rounds(text, term_text, 80)
                continue
            counts["told"] += 1
            counts["long"] += sum(told[1:]) > 15
            self.same(text, term_text, told)
        self.assertGreater(min(counts.values()), 15)

    def test_names_of_all_sorts(self):
        # Names that stand ahead of and behind copy and drop in the order of texts, on either side of a meeting.
        text = "kind a\nmaker aa a\nmaker zz a a a\ntaker bb a a a\ntaker yy a a a\n" \
            "rule bb aa x = zz x x\nrule bb zz x y z = zz y y\nrule yy aa x = aa\nrule yy zz x y z = zz z x"
        self.same(text, "bb zz aa aa aa", ("zz aa aa", 1, 1, 2))
        self.same(text, "yy bb aa zz aa aa aa", ("zz aa zz aa aa", 2, 3, 3))

    def test_empty_rows_in_the_text(self):
        self.assertEqual(ground("\n\n" + NATS.replace("\n", "\n\n") + "\n", "add zero zero"), ("zero", 1, 0, 0))

    def test_the_order_stays(self):
        order = [4, -2, 10 ** 50]
        ground(NATS, "mul next next zero next zero", order)
        self.assertEqual(order, [4, -2, 10 ** 50])

    def test_by_name(self):
        told = ("zero", 1, 0, 0)
        self.assertEqual(ground(text=NATS, term_text="add zero zero", order=[1], most=1), told)
        self.assertEqual(reckoned(text=NATS, term_text="add zero zero", most=1), told)
        self.assertEqual(ground_in_rounds(text=NATS, term_text="add zero zero", most=1), told + (1,))


class Refused(WholeCase):
    BAD_ROW = NATS + "\nkind"
    UNSOUND = NATS + "\nkind nat"
    BAD_TERM = "next  zero"

    def test_the_programs_text(self):
        self.refused(BadRow, self.BAD_ROW, "zero", row=19)
        self.refused(BadRow, "kind a\n\n maker m a", "m", row=3)

    def test_the_program(self):
        self.refused(Twice, self.UNSOUND, "zero", word="nat")
        self.refused(NoName, "kind a\nmaker m b", "m", word="b")
        self.refused(BadKind, "kind a\nkind b\nmaker m a\nmaker n b\ntaker t a a\nrule t m = n", "m", word="n")
        self.refused(Lacking, "kind a\nmaker m a\ntaker t a a", "m", taker="t", maker="m")

    def test_the_term(self):
        for text in ("", " ", self.BAD_TERM, "zero ", "Zero", text_of(number(60))):
            self.refused(NoTerm, NATS, text)
        self.refused(NoName, NATS, "nut", word="nut")
        self.refused(NoName, NATS, "next nut", word="nut")
        self.refused(BadKind, NATS, "next void", word="void")
        self.refused(BadKind, NATS, "next", word="")
        self.refused(BadKind, NATS, "zero zero", word="zero")
        self.refused(NoName, "", "zero", word="zero")

    def test_which_comes_first(self):
        self.refused(BadRow, self.UNSOUND + "\nkind", self.BAD_TERM, row=20)
        self.refused(BadRow, self.BAD_ROW, self.BAD_TERM, row=19)
        self.refused(BadRow, "kind nat\nkind nat\nnut", "nut", row=3)
        self.refused(Twice, self.UNSOUND, self.BAD_TERM, word="nat")
        self.refused(Twice, self.UNSOUND, "nut", word="nat")
        self.refused(Lacking, "kind a\nmaker m a\ntaker t a a", "", taker="t", maker="m")

    def test_refusals_come_ahead_of_spent(self):
        for asked in ALL:
            with self.assertRaises(BadRow):
                asked(self.BAD_ROW, "add zero zero", most=0)
            with self.assertRaises(NoTerm):
                asked(NATS, "add zero  zero", most=0)


class Bounds(WholeCase):
    def test_most_0(self):
        for asked in ALL:
            self.assertEqual(asked(NATS, "next zero", most=0)[:4], ("next zero", 0, 0, 0))
            with self.assertRaises(Spent):
                asked(NATS, "add zero zero", most=0)

    def test_no_end(self):
        for most in (0, 1, 400, 2000):
            for asked in ALL:
                with self.assertRaises(Spent):
                    asked(ENDLESS, "t m", most=most)

    def test_most_left_out_is_400(self):
        # So many times a step that takes 20 meetings: 19 calls of t, and t's last.
        text = LOOP + "\ntaker s a a a\nrule s m x = x\nrule s n y x = s y t " + "n " * 19 + "m x"
        words = ("s",) + ("n",) * 19 + ("m", "m")
        for ahead, total in (((), 400), (("t", "m"), 401)):
            term_text = text_of(ahead + words)
            told = reckoned(text, term_text, 2000)
            self.assertEqual(sum(told[1:]), total)
            for asked in ALL:
                if total == 400:
                    self.assertEqual(asked(text, term_text)[:4], told)
                else:
                    with self.assertRaises(Spent):
                        asked(text, term_text)
            self.assertEqual(ground(text, term_text, most=total), told)

    def test_near_the_bounds_within_seconds(self):
        begin = time.monotonic()
        term_text = text_of(("mul",) + number(28) + number(29))
        told = (text_of(number(28 * 29)), 29 + 28 * 30, 28 * 30, 30)
        self.assertEqual(sum(told[1:]), 1739)
        self.same(NATS, term_text, told)
        self.assertLess(time.monotonic() - begin, 30)

    def test_sixty_words(self):
        self.same(NATS, text_of(number(59)), (text_of(number(59)), 0, 0, 0))
        self.same(NATS, text_of(("add",) * 29 + ("zero",) * 30), ("zero", 29, 0, 0))

    def test_a_great_value(self):
        rule = "rule t n y x = t y " + "n " * 37 + "x"
        text = "kind a\nmaker m a\nmaker n a a\ntaker t a a a\nrule t m x = x\n" + rule
        self.same(text, text_of(("t",) + ("n",) * 57 + ("m", "m")), (text_of(("n",) * (57 * 37) + ("m",)), 58, 0, 0))

    def test_a_great_program(self):
        names = [f"m{a}{b}" for a in "abcdefghijklm" for b in "abcdef"][:76]
        text = "kind a\nmaker m a\n" + "\n".join(f"maker {name} a a a" for name in names) + "\ntaker t a a a\nrule t m x = x\n"
        text += "\n".join(f"rule t {name} x y z = {name} t x z t y z" for name in names)
        self.assertTrue(3900 < len(text) <= 4000, len(text))
        begin = time.monotonic()
        term_text = text_of(["t"] + [f"m{a}a m" for a in "abcdef"] + ["m", "maa", "m", "m"])
        told = reckoned(text, term_text)
        self.same(text, term_text, told)
        self.assertEqual(read(text), read(shown(read(text))))
        self.assertLess(time.monotonic() - begin, 30)


if __name__ == "__main__":
    unittest.main()
