import random
import unittest

from hookmill.nets import made
from hookmill.parts import parts
from helper import BIG, NOTHING, STOCK, beside_all, some_net, wheel


def slow_parts(net):
    """Every piece has a part of its own at first; each tie between pieces makes two parts one."""
    found = [{number} for number, name in net[0]]
    for (one, hook), (other, far_hook) in net[1]:
        if one != 0 and other != 0:
            joined = [part for part in found if one in part or other in part]
            found = [part for part in found if part not in joined] + [set().union(*joined)]
    return sorted(sorted(part) for part in found)


class Parts(unittest.TestCase):
    def test_without_pieces(self):
        self.assertEqual(parts(NOTHING), [])
        self.assertEqual(parts(((), (((0, 0), (0, 1)),), 3)), [])

    def test_one_piece(self):
        self.assertEqual(parts(made(STOCK, [(4, "dot")], [((4, 0), (0, 0))])), [[4]])

    def test_a_piece_tied_to_itself(self):
        self.assertEqual(parts(made(STOCK, [(4, "arm")], [((4, 0), (4, 1))])), [[4]])

    def test_together_by_a_rim_alone_is_apart(self):
        ties = [((1, 0), (0, 0)), ((2, 0), (0, 1)), ((3, 0), (0, 2))]
        self.assertEqual(parts(made(STOCK, [(1, "dot"), (2, "dot"), (3, "dot")], ties)), [[1], [2], [3]])

    def test_together_by_any_hooks_on_and_on(self):
        pieces = [(1, "dot"), (2, "fork"), (5, "fork"), (9, "dot")]
        ties = [((1, 0), (5, 1)), ((5, 2), (2, 2)), ((2, 0), (9, 0)), ((2, 1), (0, 1)), ((5, 0), (0, 0))]
        self.assertEqual(parts(made(STOCK, pieces, ties)), [[1, 2, 5, 9]])

    def test_numbers_rise_and_lists_by_their_first(self):
        pieces = [(n, "dot") for n in (1, 2, 3, 9, 10, 100)]
        ties = [((100, 0), (1, 0)), ((10, 0), (2, 0)), ((9, 0), (3, 0))]
        self.assertEqual(parts(made(STOCK, pieces, ties)), [[1, 100], [2, 10], [3, 9]])

    def test_numbers_rise_within_a_long_part(self):
        ties = [((n, 1), (n * 7 % 101, 0)) for n in range(1, 101)]
        net = made(STOCK, [(n, "arm") for n in range(1, 101)], ties)
        self.assertEqual(parts(net), slow_parts(net))

    def test_at_a_toss(self):
        source = random.Random(11)
        for turn in range(300):
            net = some_net(source, source.randrange(12), 0, 6)
            self.assertEqual(parts(net), slow_parts(net))

    def test_sixty_figures(self):
        net = made(STOCK, [(BIG - 1, "dot"), (7, "dot"), (BIG, "dot")], [((7, 0), (BIG, 0)), ((BIG - 1, 0), (0, 0))])
        self.assertEqual(parts(net), [[7, BIG], [BIG - 1]])

    def test_the_lists_are_the_askers_own(self):
        net = beside_all([wheel(3), wheel(2)])
        first = parts(net)
        first[0].append(99)
        first[1].clear()
        first.pop()
        self.assertEqual(parts(net), [[1, 2, 3], [4, 5]])

    def test_four_hundred_pieces(self):
        self.assertEqual(parts(wheel(400)), [list(range(1, 401))])
        self.assertEqual(parts(beside_all([wheel(1)] * 400)), [[n] for n in range(1, 401)])
        self.assertEqual(parts(beside_all([wheel(200)] * 2)), [list(range(1, 201)), list(range(201, 401))])

    def test_by_name(self):
        self.assertEqual(parts(net=wheel(2)), [[1, 2]])


if __name__ == "__main__":
    unittest.main()
