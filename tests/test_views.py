import unittest
from fractions import Fraction

from handmoves import scrambled
from nets import (
    DRAWINGS,
    SERIES,
    STAR,
    chain_net,
    crosses,
    dense,
    grown,
    home_of,
    octahedron,
    ones,
    renamed,
    table_by_hand,
    with_loop,
    with_twig,
)
from rimohms.drawing import check_net
from rimohms.errors import NetError, RimError
from rimohms.rebuild import rebuild
from rimohms.strands import has_fewest
from rimohms.views import dual, mirrored, turned
from tables import table_from, well_joined

APART = (4, ((), (0,), (3,), (), (1, 4, 2), (5, 6, 7)), ones(4))


def samples():
    yield from DRAWINGS.values()
    yield from (APART, chain_net(4), octahedron(1), octahedron(3))
    for seed in range(70):
        yield grown(1 + seed % 7, seed % 25, seed)
        yield dense(1 + seed % 7, 3 + seed % 6, 8 + seed % 15, seed)


def is_joined(net):
    home = home_of(net)
    reached, waiting = {1}, [1]
    while waiting:
        node = waiting.pop()
        for dart in net[1][node - 1]:
            if home[dart ^ 1] not in reached:
                reached.add(home[dart ^ 1])
                waiting.append(home[dart ^ 1])
    return len(reached) == len(net[1])


def joined_samples():
    for net in samples():
        if is_joined(net):
            yield net
    for rim in range(1, 8):
        base = rebuild(table_from(well_joined(rim), rim))
        for seed in range(3):
            net = renamed(scrambled(base, seed, rim), seed)
            yield net
            yield with_loop(with_twig(net, len(net[1]), 0, (2, 3)), 1, 0, (5, 1))


class Turned(unittest.TestCase):
    def test_by_hand(self):
        self.assertEqual(turned(STAR), (3, ((2,), (4,), (0,), (1, 3, 5)), ones(3)))
        self.assertEqual(turned(SERIES), (2, ((3,), (0,), (1, 2)), SERIES[2]))
        for name in ("one rim node, no edges", "seven rim nodes, no edges", "loop at the rim", "loop around a twig"):
            self.assertEqual(turned(DRAWINGS[name]), DRAWINGS[name])
        four = DRAWINGS["one dart at a rim node"]
        self.assertEqual(turned(four), (4, ((), (2, 1), (3,), (0,)), four[2]))
        self.assertEqual(turned(APART), (4, ((0,), (3,), (), (), (1, 4, 2), (5, 6, 7)), ones(4)))

    def test_tables(self):
        for net in samples():
            after = turned(net)
            self.assertIsNone(check_net(after))
            before = table_by_hand(net)
            order = [*range(1, net[0]), 0]
            self.assertEqual(table_by_hand(after), tuple(tuple(before[i][j] for j in order) for i in order))
            self.assertEqual(turned(net), after)

    def test_all_around(self):
        for net in samples():
            after = net
            for _ in range(net[0]):
                after = turned(after)
            self.assertEqual(after, net)


class Mirrored(unittest.TestCase):
    def test_by_hand(self):
        self.assertEqual(mirrored(STAR), (3, ((4,), (2,), (0,), (5, 3, 1)), ones(3)))
        self.assertEqual(mirrored(DRAWINGS["loop at the rim"]), DRAWINGS["loop the other way"])
        self.assertEqual(mirrored((7, ((),) * 7, ())), (7, ((),) * 7, ()))
        four = DRAWINGS["one dart at a rim node"]
        self.assertEqual(mirrored(four), (4, ((3,), (1, 2), (), (0,)), four[2]))
        self.assertEqual(mirrored(APART), (4, ((), (3,), (0,), (), (2, 4, 1), (7, 6, 5)), ones(4)))

    def test_tables(self):
        for net in samples():
            after = mirrored(net)
            self.assertIsNone(check_net(after))
            before = table_by_hand(net)
            self.assertEqual(table_by_hand(after), tuple(row[::-1] for row in before[::-1]))
            self.assertEqual(mirrored(after), net)
            self.assertIs(has_fewest(after), has_fewest(net))

    def test_with_turned(self):
        for net in samples():
            around = mirrored(net)
            for _ in range(net[0] - 1):
                around = turned(around)
            self.assertEqual(mirrored(turned(net)), around)


class Dual(unittest.TestCase):
    def test_by_hand(self):
        for net, faces in (
            (STAR, (3, ((3, 0), (5, 2), (1, 4)), ones(3))),
            (
                DRAWINGS["triangle"],
                (3, ((0,), (2,), (4,), (3, 5, 1)), ((1, 1), (1, 2), (1, 3))),
            ),
            (DRAWINGS["triple"], (2, ((0,), (5,), (2, 1), (4, 3)), ((2, 1), (3, 2), (1, 5)))),
            (SERIES, (2, ((2, 0), (1, 3)), ((1, 1), (2, 1)))),
            ((2, ((1,), (0,)), ((5, 3),)), (2, ((1,), (0,)), ((3, 5),))),
            ((1, ((),), ()), (1, ((),), ())),
            (DRAWINGS["loop at the rim"], (1, ((0,), (1,)), ((2, 7),))),
            (DRAWINGS["loop the other way"], (1, ((1,), (0,)), ((2, 7),))),
            ((1, ((0,), (1,)), ((2, 7),)), (1, ((1, 0),), ((7, 2),))),
            (DRAWINGS["two loops side by side"], (1, ((2, 0), (1,), (3,)), ones(2))),
            (DRAWINGS["loop in a loop"], (1, ((0,), (2, 1), (3,)), ones(2))),
            (DRAWINGS["loop around a twig"], (1, ((0,), (3, 2, 1)), ones(2))),
            (DRAWINGS["loop at an inner node"], (2, ((2, 4, 0), (1, 3), (5,)), ((1, 1), (2, 1), (1, 9)))),
        ):
            self.assertIsNone(check_net(net))
            self.assertEqual(dual(net), faces)

    def test_each_dart_stands_at_the_face_to_its_left(self):
        for net in joined_samples():
            faces = dual(net)
            self.assertIsNone(check_net(faces))
            self.assertFalse(crosses(faces))
            self.assertEqual(faces[0], net[0])
            products = [Fraction(*one) * Fraction(*other) for one, other in zip(net[2], faces[2])]
            self.assertEqual(products, [1] * len(net[2]))
            home = home_of(faces)
            for node, turn in enumerate(net[1], start=1):
                # Next to each other at a node, the former one has the face to its left that the latter one's
                # other dart has to its left.
                pairs = list(zip(turn, turn[1:]))
                if node > net[0]:
                    pairs.append((turn[-1], turn[0]))
                elif turn:
                    self.assertEqual(home[turn[0]], node)
                    self.assertEqual(home[turn[-1] ^ 1], (node - 2) % net[0] + 1)
                for one, other in pairs:
                    self.assertEqual(home[one ^ 1], home[other])
            self.assertEqual(dual(net), faces)

    def test_order_of_the_inner_nodes(self):
        for net in joined_samples():
            rim, turns, _ = dual(net)
            least = [min(turn) for turn in turns[rim:]]
            self.assertEqual(least, sorted(least))
            self.assertEqual(least, [turn[-1] for turn in turns[rim:]])

    def test_tables(self):
        many = 0
        for net in joined_samples():
            rim = net[0]
            table = [[Fraction(*value) for value in row] for row in table_by_hand(net)]
            of_faces = [[Fraction(*value) for value in row] for row in table_by_hand(dual(net))]
            for at in range(rim):
                sums = [sum(table[k][at] for k in range(i + 1)) for i in range(rim)]
                currents = [sum(value * volt for value, volt in zip(row, sums)) for row in of_faces]
                volts = [int(i == at) for i in range(rim)] + [int(at == 0)]
                self.assertEqual(currents, [volts[i] - volts[i + 1] for i in range(rim)])
                many += 1
        self.assertGreater(many, 150)

    def test_dual_of_dual(self):
        for net in joined_samples():
            twice = dual(dual(net))
            self.assertEqual(table_by_hand(twice), table_by_hand(turned(net)))
            self.assertEqual((len(twice[1]), twice[2]), (len(net[1]), net[2]))

    def test_fewest_edges(self):
        answers = []
        for net in joined_samples():
            answers.append(has_fewest(net))
            self.assertIs(has_fewest(dual(net)), answers[-1])
        self.assertGreater(min(answers.count(True), answers.count(False)), 15)

    def test_not_all_joined(self):
        many = 0
        for net in samples():
            if not is_joined(net):
                many += 1
                with self.assertRaises(NetError) as caught:
                    dual(net)
                self.assertIsInstance(caught.exception, RimError)
                self.assertIsInstance(caught.exception, ValueError)
        self.assertGreater(many, 20)
        for net in (APART, (2, ((), ()), ()), (2, ((0, 1), ()), ones(1)), (3, ((0,), (1,), ()), ones(1))):
            with self.assertRaises(NetError):
                dual(net)


if __name__ == "__main__":
    unittest.main()
