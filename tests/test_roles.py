import random
import unittest

from hookmill.errors import NoName
from hookmill.kinds import sound
from hookmill.roles import CopyRole, DropRole, MakerRole, Role, TakerRole, role_of
from hookmill.texts import read
from hookmill.weaving import stock_of
from helper import NATS, some_program

PROGRAM = sound(read(NATS))
WIDE = sound(read("kind a\nkind b\nkind c\nmaker m a\nmaker n b a b c\ntaker s c a\ntaker t a b c a\n"
                  "rule s m = s m\nrule t n u v w x y = m"))
CLASSES = (MakerRole, TakerRole, CopyRole, DropRole)


class Roles(unittest.TestCase):
    def check(self, program, name, kind, gives, takes):
        """gives and takes are dicts from hooks to kinds."""
        role = role_of(program, name)
        self.assertIsInstance(role, Role)
        self.assertEqual([one for one in CLASSES if isinstance(role, one)], [kind])
        self.assertEqual(role.gives(), list(gives))
        self.assertEqual(role.takes(), list(takes))
        for hook, known in {**gives, **takes}.items():
            self.assertEqual(role.kind_at(hook), known)

    def test_makers(self):
        self.check(PROGRAM, "zero", MakerRole, {0: "nat"}, {})
        self.check(PROGRAM, "next", MakerRole, {0: "nat"}, {1: "nat"})
        self.check(PROGRAM, "put", MakerRole, {0: "list"}, {1: "nat", 2: "list"})
        self.check(WIDE, "n", MakerRole, {0: "b"}, {1: "a", 2: "b", 3: "c"})

    def test_takers(self):
        self.check(PROGRAM, "sum", TakerRole, {1: "nat"}, {0: "list"})
        self.check(PROGRAM, "add", TakerRole, {1: "nat"}, {0: "nat", 2: "nat"})
        self.check(WIDE, "s", TakerRole, {1: "c"}, {0: "a"})
        self.check(WIDE, "t", TakerRole, {1: "a"}, {0: "b", 2: "c", 3: "a"})

    def test_copy_and_drop(self):
        for program in (PROGRAM, WIDE, ((), (), (), ())):
            self.check(program, "copy", CopyRole, {1: None, 2: None}, {0: None})
            self.check(program, "drop", DropRole, {}, {0: None})

    def test_names_that_are_not_in_the_stock(self):
        for name in ("nut", "nat", "list", "m", "", "Zero"):
            with self.assertRaises(NoName) as caught:
                role_of(PROGRAM, name)
            self.assertEqual(caught.exception.word, name)
        with self.assertRaises(NoName):
            role_of(((), (), (), ()), "zero")

    def test_none_stands_under_another(self):
        for one in CLASSES:
            self.assertTrue(issubclass(one, Role))
            self.assertFalse([other for other in CLASSES if other is not one and issubclass(one, other)])

    def test_each_hook_gives_or_takes(self):
        source = random.Random(121)
        for turn in range(50):
            program = some_program(source)
            for name, sides in stock_of(program).items():
                role = role_of(program, name)
                self.assertEqual(sorted(role.gives() + role.takes()), list(range(sides + 1)))
                self.assertEqual((role.gives(), role.takes()), (sorted(role.gives()), sorted(role.takes())))

    def test_what_is_told_being_changed_behind(self):
        role = role_of(WIDE, "n")
        role.gives().append(7)
        role.takes().clear()
        self.assertEqual((role.gives(), role.takes()), ([0], [1, 2, 3]))
        role_of(PROGRAM, "copy").gives().clear()
        self.assertEqual(role_of(PROGRAM, "copy").gives(), [1, 2])

    def test_by_name(self):
        self.assertEqual(role_of(program=PROGRAM, name="zero").kind_at(hook=0), "nat")


if __name__ == "__main__":
    unittest.main()
