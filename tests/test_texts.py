import unittest

from hookmill.errors import BadRow
from hookmill.texts import is_name, read, shown

TEXT = """kind nat
kind list
maker zero nat
maker next nat nat
maker void list
maker put list nat list
taker add nat nat nat
taker sum nat list
rule add zero m = m
rule add next n m = next add n m
rule sum void = zero
rule sum put n l = add n sum l"""

PROGRAM = (
    ("nat", "list"),
    (("zero", "nat", ()), ("next", "nat", ("nat",)), ("void", "list", ()), ("put", "list", ("nat", "list"))),
    (("add", "nat", "nat", ("nat",)), ("sum", "nat", "list", ())),
    (
        ("add", "zero", ("m",), ("m",)),
        ("add", "next", ("n", "m"), ("next", "add", "n", "m")),
        ("sum", "void", (), ("zero",)),
        ("sum", "put", ("n", "l"), ("add", "n", "sum", "l")),
    ),
)
EMPTY = ((), (), (), ())


class IsName(unittest.TestCase):
    def test_lengths(self):
        for count in range(12):
            self.assertIs(is_name("a" * count), 1 <= count <= 8)

    def test_small_letters(self):
        for sign in "abcdefghijklmnopqrstuvwxyz":
            self.assertIs(is_name(sign), True)
            self.assertIs(is_name("ab" + sign), True)

    def test_every_other_sign(self):
        small = "abcdefghijklmnopqrstuvwxyz"
        for code in list(range(0, 300)) + [0x3B1, 0x430, 0xFF41, 0x1D41A]:
            sign = chr(code)
            if sign not in small:
                for word in (sign, sign + "a", "a" + sign, "a" + sign + "a"):
                    self.assertIs(is_name(word), False, repr(word))

    def test_words_of_the_forms_are_names(self):
        for word in ("kind", "maker", "taker", "rule", "copy", "drop"):
            self.assertIs(is_name(word), True)

    def test_by_name(self):
        self.assertIs(is_name(word="abc"), True)


class Read(unittest.TestCase):
    def refused(self, text, row):
        with self.assertRaises(BadRow) as caught:
            read(text)
        self.assertEqual(caught.exception.row, row)

    def test_ordinary(self):
        self.assertEqual(read(TEXT), PROGRAM)

    def test_the_text_without_signs(self):
        self.assertEqual(read(""), EMPTY)
        self.assertEqual(read("\n\n\n"), EMPTY)

    def test_rows_without_signs(self):
        self.assertEqual(read("\n\n" + TEXT.replace("\n", "\n\n") + "\n\n\n"), PROGRAM)

    def test_rows_in_any_order_keep_their_order_among_their_like(self):
        rows = TEXT.split("\n")
        mixed = rows[8:10] + rows[6:7] + rows[2:4] + rows[0:1] + rows[10:] + rows[4:6] + rows[1:2] + rows[7:8]
        self.assertEqual(read("\n".join(mixed)), PROGRAM)
        self.assertEqual(read("kind b\nkind a\nkind b"), (("b", "a", "b"), (), (), ()))

    def test_the_least_and_the_most_words(self):
        self.assertEqual(read("kind a")[0], ("a",))
        self.assertEqual(read("maker a b")[1], (("a", "b", ()),))
        self.assertEqual(read("maker a b c d e")[1], (("a", "b", ("c", "d", "e")),))
        self.assertEqual(read("taker a b c")[2], (("a", "b", "c", ()),))
        self.assertEqual(read("taker a b c d e")[2], (("a", "b", "c", ("d", "e")),))
        self.assertEqual(read("rule a b = c")[3], (("a", "b", (), ("c",)),))
        forty = " ".join(["word"] * 40)
        self.assertEqual(read("rule a b c d e f g = " + forty)[3], (("a", "b", ("c", "d", "e", "f", "g"), ("word",) * 40),))

    def test_nothing_else_is_looked_at(self):
        self.assertEqual(read("kind kind\nkind copy\nkind kind")[0], ("kind", "copy", "kind"))
        self.assertEqual(read("maker maker rule kind")[1], (("maker", "rule", ("kind",)),))
        self.assertEqual(read("rule rule rule rule rule = rule")[3], (("rule", "rule", ("rule", "rule"), ("rule",)),))

    def test_a_word_too_few_or_too_many(self):
        forty_one = " ".join(["word"] * 41)
        for row in ("kind", "kind a b", "maker", "maker a", "maker a b c d e f", "taker", "taker a", "taker a b",
                    "taker a b c d e f", "rule", "rule a", "rule a b", "rule a b c", "rule =", "rule a =", "rule = a",
                    "rule a = b", "rule a b =", "rule a b c =", "rule a b c d e f g h = a", "rule a b = " + forty_one):
            with self.subTest(row=row):
                self.refused(row, 1)

    def test_blanks(self):
        for row in (" ", "  ", " kind a", "kind a ", "kind  a", "maker a  b", "maker a b ", " maker a b", "taker a b c ",
                    "taker a  b c", "rule a b  = c", "rule a b =  c", "rule a b = c ", " rule a b = c", "rule a b=c",
                    "rule a b =c", "rule a b= c", "rule  a b = c", "kind\ta", "kind a\t", "\t"):
            with self.subTest(row=row):
                self.refused(row, 1)

    def test_words_that_are_no_names(self):
        for row in ("kind A", "kind a1", "kind ninechars", "kind a-b", "kind =", "maker A b", "maker a B", "maker a b C",
                    "maker a b c D", "maker a b =", "taker A b c", "taker a B c", "taker a b C", "taker a b c D", "taker a b c =",
                    "rule A b = c", "rule a B = c", "rule a b C = c", "rule a b = C", "rule a b = c C", "rule a b == c",
                    "rule a b = c = d", "rule a b = =", "rule a b = = c", "rule a b : c", "rule a b overnines = c",
                    "rule a b = overnines", "kind \x7f", "kind a\r"):
            with self.subTest(row=row):
                self.refused(row, 1)

    def test_an_unknown_first_word(self):
        for row in ("a", "kinds a", "Kind a", "makers a b", "KIND a", "kin a", "nd a", "=", "= a", "rules a b = c", "# kind a"):
            with self.subTest(row=row):
                self.refused(row, 1)

    def test_rows_are_counted_over_all(self):
        self.refused("kind a\n\nkind b\n\n\nkind B\nkind C", 6)
        self.refused("\n\n\n ", 4)
        self.refused("kind a\nmaker b", 2)
        self.refused("kind a\nkind b\n ", 3)
        self.refused("rule a b\nkind a b\n", 1)

    def test_two_texts_keep_nothing_in_common(self):
        read("kind a")
        self.assertEqual(read("kind b"), (("b",), (), (), ()))

    def test_by_name(self):
        self.assertEqual(read(text=""), EMPTY)
        self.assertEqual(shown(program=EMPTY), "")


class Shown(unittest.TestCase):
    def test_ordinary(self):
        self.assertEqual(shown(PROGRAM), TEXT)

    def test_the_program_of_nothing(self):
        self.assertEqual(shown(EMPTY), "")

    def test_each_sort_of_row_alone(self):
        self.assertEqual(shown((("a",), (), (), ())), "kind a")
        self.assertEqual(shown(((), (("a", "b", ("c", "d", "e")),), (), ())), "maker a b c d e")
        self.assertEqual(shown(((), (("a", "b", ()),), (), ())), "maker a b")
        self.assertEqual(shown(((), (), (("a", "b", "c", ("d", "e")),), ())), "taker a b c d e")
        self.assertEqual(shown(((), (), (("a", "b", "c", ()),), ())), "taker a b c")
        self.assertEqual(shown(((), (), (), (("a", "b", ("c", "d"), ("e", "f")),))), "rule a b c d = e f")
        self.assertEqual(shown(((), (), (), (("a", "b", (), ("e",)),))), "rule a b = e")

    def test_kinds_makers_takers_rules(self):
        text = "rule t m = m\ntaker t k k\nmaker m k\nkind k"
        self.assertEqual(shown(read(text)), "kind k\nmaker m k\ntaker t k k\nrule t m = m")

    def test_read_again_the_program(self):
        for text in (TEXT, "", "rule a b c d e f g = h i", "taker a b c\n\n\nkind z\nkind y\nmaker q r s t u"):
            program = read(text)
            self.assertEqual(read(shown(program)), program)


if __name__ == "__main__":
    unittest.main()
