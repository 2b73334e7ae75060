import unittest

from nets import DRAWINGS, STAR, chain_net, grown, home_of
from rimohms.netmap import ends_of, left_face

# By hand: name: (the walk from each dart, the ends of each edge).
FACES = {
    "star": ([(0, 3), (1,), (2, 5), (3,), (4, 1), (5,)], [(1, 4), (2, 4), (3, 4)]),
    "series": ([(0, 2), (1,), (2,), (3, 1)], [(1, 3), (3, 2)]),
    "one rim node, no edges": ([], []),
    "seven rim nodes, no edges": ([], []),
    "triangle": ([(0,), (1, 5, 3), (2,), (3, 1, 5), (4,), (5, 3, 1)], [(1, 2), (2, 3), (3, 1)]),
    "triple": ([(0,), (1, 2), (2, 1), (3, 4), (4, 3), (5,)], [(1, 2), (1, 2), (1, 2)]),
    "loop at the rim": ([(0,), (1,)], [(1, 1)]),
    "loop the other way": ([(0,), (1,)], [(1, 1)]),
    "two loops side by side": ([(0, 2), (1,), (2,), (3,)], [(1, 1), (1, 1)]),
    "loop in a loop": ([(0,), (1, 2), (2, 1), (3,)], [(1, 1), (1, 1)]),
    "loop at an inner node": ([(0, 4, 2), (1,), (2,), (3, 1), (4, 2), (5,)], [(1, 3), (3, 2), (3, 3)]),
    "loop around a twig": ([(0,), (1, 2, 3), (2, 3, 1), (3, 1, 2)], [(1, 1), (1, 2)]),
    "twigs": (
        [
            (0, 1, 2, 6, 7, 3, 4, 5),
            (1, 2, 6, 7, 3, 4, 5),
            (2, 6, 7, 3, 4, 5),
            (3, 4, 5),
            (4, 5),
            (5,),
            (6, 7, 3, 4, 5),
            (7, 3, 4, 5),
        ],
        [(1, 3), (1, 4), (1, 5), (4, 6)],
    ),
    "one dart at a rim node": ([(0,), (1,), (2,), (3, 1)], [(1, 3), (3, 4)]),
    "two inner nodes twice": (
        [(0, 4, 6), (1,), (2, 5), (3, 1), (4, 6), (5, 2), (6,), (7, 3, 1)],
        [(1, 3), (3, 4), (3, 4), (4, 2)],
    ),
}


def walked(net, dart):
    """The walk of point [7], by places in the turns, step by step."""
    home = home_of(net)
    walk = []
    while True:
        walk.append(dart)
        back = dart + 1 if dart in range(0, 1000, 2) else dart - 1
        node = home[back]
        turn = net[1][node - 1]
        place = turn.index(back)
        if place == len(turn) - 1:
            if node <= net[0]:
                return tuple(walk)
            place = -1
        dart = turn[place + 1]
        if dart == walk[0]:
            return tuple(walk)


class LeftFace(unittest.TestCase):
    def test_example(self):
        net = (3, ((0,), (2,), (4,), (1, 3, 5)), ((1, 1), (1, 1), (1, 1)))
        self.assertEqual(left_face(net, 0), (0, 3))

    def test_by_hand(self):
        for name, (faces, _) in FACES.items():
            net = DRAWINGS[name]
            self.assertEqual([left_face(net, dart) for dart in range(2 * len(net[2]))], faces, name)

    def test_inner_face_comes_back(self):
        net = DRAWINGS["wheel"]
        self.assertEqual(left_face(net, 9), (9, 15, 13, 11))
        self.assertEqual(left_face(net, 15), (15, 13, 11, 9))
        self.assertEqual(left_face(net, 8), (8, 3))
        self.assertEqual(left_face(net, 12), (12, 7))

    def test_one_rim_node_with_ring(self):
        # Rim node 1, inner node 2, two edges between them, and a twig within the ring.
        net = (1, ((0, 2), (3, 1, 4), (5,)), ((1, 1), (1, 1), (1, 1)))
        self.assertEqual(left_face(net, 0), (0, 4, 5, 3))
        self.assertEqual(left_face(net, 1), (1, 2))
        self.assertEqual(left_face(net, 2), (2, 1))
        self.assertEqual(left_face(net, 3), (3,))

    def test_turn_of_inner_node_may_begin_anywhere(self):
        for turn in ((1, 3, 5), (3, 5, 1), (5, 1, 3)):
            net = (3, STAR[1][:3] + (turn,), STAR[2])
            self.assertEqual([left_face(net, dart) for dart in range(6)], FACES["star"][0])

    def test_each_dart_of_grown_drawings(self):
        for seed in range(60):
            net = grown(1 + seed % 7, seed, seed)
            for dart in range(2 * len(net[2])):
                self.assertEqual(left_face(net, dart), walked(net, dart))

    def test_kind(self):
        self.assertIs(type(left_face(STAR, 1)), tuple)

    def test_again(self):
        for net in DRAWINGS.values():
            for dart in range(2 * len(net[2])):
                self.assertEqual(left_face(net, dart), left_face(net, dart))


class EndsOf(unittest.TestCase):
    def test_by_hand(self):
        for name, (_, ends) in FACES.items():
            self.assertEqual(ends_of(DRAWINGS[name]), ends, name)

    def test_no_edges(self):
        self.assertEqual(ends_of((1, ((),), ())), [])
        self.assertEqual(ends_of((4, ((), (), (), ()), ())), [])

    def test_first_dart_first(self):
        self.assertEqual(ends_of((2, ((1,), (0,)), ((1, 1),))), [(2, 1)])
        self.assertEqual(ends_of(chain_net(4)), [(1, 3), (3, 4), (4, 5), (5, 2)])

    def test_grown_drawings(self):
        for seed in range(40):
            net = grown(1 + seed % 7, seed + 3, seed)
            home = home_of(net)
            self.assertEqual(ends_of(net), [(home[2 * k], home[2 * k + 1]) for k in range(len(net[2]))])

    def test_kind_and_again(self):
        found = ends_of(STAR)
        self.assertIs(type(found), list)
        self.assertIs(type(found[0]), tuple)
        found.append("more")
        self.assertEqual(ends_of(STAR), [(1, 4), (2, 4), (3, 4)])


if __name__ == "__main__":
    unittest.main()
