import copy
import unittest
from fractions import Fraction

from handmoves import all_moves, hand_move
from nets import DRAWINGS, SERIES, STAR, dense, ones, renamed, table_by_hand, widened
from rimohms.compare import alike
from rimohms.drawing import check_net
from rimohms.errors import MoveError, NetError, RimError, TableError, TextError
from rimohms.lab import Lab
from rimohms.reduction import fewest
from rimohms.strands import has_fewest
from rimohms.texts import show_net

WIDE = dense(4, 5, 16, 3)
STAR_TEXT = "rim 3\nnode 0\nnode 2\nnode 4\nnode 1 3 5\nedge 1\nedge 1\nedge 1"
EDGE = (2, ((0,), (1,)), ones(1))


def full_lab():
    lab = Lab()
    loop = DRAWINGS["loop at the rim"]
    for name, net in (("star", STAR), ("series", SERIES), ("wide", WIDE), ("edge", EDGE), ("loop", loop)):
        lab.read(name, show_net(net))
    return lab


def state(lab):
    """All that the methods that change nothing tell of a lab."""
    return [(name, lab.net(name), lab.text(name), lab.table(name)) for name in lab.names()]


class LabTest(unittest.TestCase):
    def refused(self, lab, kind, call):
        """The call raises an error of the kind, and nothing has changed; the same again."""
        before = state(lab)
        for _ in range(2):
            with self.assertRaises(kind) as caught:
                call()
            self.assertIsInstance(caught.exception, RimError)
            self.assertEqual(state(lab), before)

    def check(self, lab):
        """Each net is a drawing with its table and its text."""
        for name, net, text, table in state(lab):
            self.assertIsNone(check_net(net), name)
            self.assertEqual(text, show_net(net))
            self.assertEqual(table, table_by_hand(net))


class Read(LabTest):
    def test_empty(self):
        self.assertEqual(Lab().names(), [])

    def test_read(self):
        lab = Lab()
        self.assertIsNone(lab.read("a", STAR_TEXT + "  # three edges\n"))
        self.assertEqual(lab.net("a"), STAR)
        self.assertEqual(lab.text("a"), STAR_TEXT)
        self.assertEqual(lab.table("a"), table_by_hand(STAR))
        self.assertEqual(lab.names(), ["a"])

    def test_in_the_place_of_an_earlier_one(self):
        lab = full_lab()
        names = lab.names()
        self.assertIsNone(lab.read("star", show_net(SERIES)))
        self.assertEqual((lab.net("star"), lab.names()), (SERIES, names))
        self.check(lab)

    def test_wrong_texts(self):
        lab = full_lab()
        for name in ("star", "new", ""):
            self.refused(lab, TextError, lambda: lab.read(name, "rim 3\nnode 0\nnod 1"))
            self.refused(lab, TextError, lambda: lab.read(name, ""))
            self.refused(lab, NetError, lambda: lab.read(name, "rim 3\nnode 0\nnode 1"))
            self.refused(lab, NetError, lambda: lab.read(name, "rim 8"))
            self.refused(lab, NetError, lambda: lab.read(name, "rim 2\nnode 0 2\nnode 1 3\nedge 1\nedge 1\n"))
        with self.assertRaises(TextError) as caught:
            lab.read("new", "rim 1\n\nnode x")
        self.assertEqual(caught.exception.line, 3)

    def test_labs_know_nothing_of_each_other(self):
        one, other = Lab(), Lab()
        one.read("a", STAR_TEXT)
        self.assertEqual(other.names(), [])

    def test_names_ascend(self):
        lab = Lab()
        for name in ("b", "a", "B", "", "a b", "10", "9"):
            lab.read(name, STAR_TEXT)
        self.assertEqual(lab.names(), ["", "10", "9", "B", "a", "a b", "b"])
        lab.names().clear()
        self.assertEqual(len(lab.names()), 7)

    def test_names_that_are_not_there(self):
        lab = full_lab()
        for name in ("", "Star", "star ", "nobody"):
            for call in (
                lambda: lab.net(name),
                lambda: lab.text(name),
                lambda: lab.table(name),
                lambda: lab.move(name, ("number",)),
                lambda: lab.change(name, 0, (1, 1)),
                lambda: lab.shrink(name),
                lambda: lab.same(name, "star"),
                lambda: lab.same("star", name),
                lambda: lab.same(name, name),
                lambda: lab.merge("new", [(name, ["a", "b"])], ["a"]),
                lambda: lab.merge("star", [("edge", ["a", "b"]), (name, ["a", "b"])], ["a"]),
                lambda: lab.merge(name, [(name, ["a", "b"])], ["a"]),
            ):
                self.refused(lab, RimError, call)


class Change(LabTest):
    def test_moves(self):
        lab = full_lab()
        for move in (("star", 4), ("number",), ("triangle", 1), ("star", 4)):
            before, table = lab.net("star"), lab.table("star")
            self.assertIsNone(lab.move("star", move))
            self.assertEqual(lab.net("star"), hand_move(before, move))
            self.assertEqual(lab.table("star"), table)
            self.check(lab)

    def test_moves_that_do_not_fit(self):
        lab = full_lab()
        for name in lab.names():
            for move in all_moves(lab.net(name)):
                if len(lab.net(name)[2]) < 5 and hand_move(lab.net(name), move) is None:
                    self.refused(lab, MoveError, lambda: lab.move(name, move))

    def test_amounts(self):
        lab = full_lab()
        for name in lab.names():
            for edge in range(len(lab.net(name)[2])):
                before = lab.net(name)
                amount = (edge + 3, 7 * edge + 1)
                amount = (Fraction(*amount).numerator, Fraction(*amount).denominator)
                self.assertIsNone(lab.change(name, edge, amount))
                after = before[2][:edge] + (amount,) + before[2][edge + 1:]
                self.assertEqual(lab.net(name), (before[0], before[1], after))
            self.check(lab)
        before = state(lab)
        self.assertIsNone(lab.change("wide", 2, lab.net("wide")[2][2]))
        self.assertEqual(state(lab), before)

    def test_edges_that_are_not_there(self):
        lab = full_lab()
        for name in lab.names():
            many = len(lab.net(name)[2])
            for edge in (-1, -many, -many - 1, many, many + 1, 10 ** 9):
                self.refused(lab, RimError, lambda: lab.change(name, edge, (1, 1)))

    def test_amounts_that_are_no_ratios_above_0(self):
        lab = full_lab()
        for amount in ((0, 1), (-1, 1), (1, -1), (-1, -1), (2, 4), (1, 0), (0, 0), (0, 5), (-3, 7), (3, 3)):
            for name in ("star", "wide"):
                self.refused(lab, RimError, lambda: lab.change(name, 0, amount))
                self.refused(lab, RimError, lambda: lab.change(name, -1, amount))

    def test_shrink(self):
        lab = full_lab()
        lab.read("wider", show_net(widened(WIDE, 1, 14)))
        for name in lab.names():
            before, table = lab.net(name), lab.table(name)
            moves = lab.shrink(name)
            self.assertIs(type(moves), tuple)
            self.assertEqual((moves, lab.net(name)), fewest(before))
            self.assertIs(has_fewest(lab.net(name)), True)
            self.assertEqual(lab.table(name), table)
            self.assertEqual(lab.shrink(name), ())
        self.check(lab)


class Same(LabTest):
    def test_answers(self):
        lab = full_lab()
        lab.read("other", show_net(renamed(widened(WIDE, 2, 5), 2)))
        lab.read("unlike", show_net(dense(4, 5, 16, 4)))
        pairs = (("wide", "other"), ("other", "wide"), ("wide", "unlike"), ("star", "star"), ("edge", "series"))
        for first, second in pairs:
            before = state(lab)
            self.assertEqual(lab.same(first, second), alike(lab.net(first), lab.net(second)))
            self.assertEqual(state(lab), before)
        self.assertEqual([lab.same("wide", name)[0] for name in ("other", "unlike")], ["alike", "unlike"])

    def test_rims_of_unlike_size(self):
        lab = full_lab()
        for first, second in (("star", "wide"), ("wide", "star"), ("loop", "edge")):
            self.assertIsNone(lab.same(first, second))

    def test_after_changes(self):
        lab = full_lab()
        lab.read("b", STAR_TEXT)
        lab.move("b", ("star", 4))
        self.assertEqual(lab.same("star", "b")[0], "alike")
        lab.change("b", 0, (1, 2))
        self.assertEqual(lab.same("star", "b")[0], "unlike")


class Merge(LabTest):
    def merged(self, lab, name, pieces, kept, table):
        before = [row for row in state(lab) if row[0] != name]
        told = copy.deepcopy((pieces, kept))
        self.assertIsNone(lab.merge(name, pieces, kept))
        self.assertEqual((pieces, kept), told)
        self.assertEqual([row for row in state(lab) if row[0] != name], before)
        self.assertEqual(lab.table(name), table)
        self.assertIs(has_fewest(lab.net(name)), True)
        self.check(lab)

    def test_by_hand(self):
        lab = full_lab()
        half = (((1, 2), (-1, 2)), ((-1, 2), (1, 2)))
        self.merged(lab, "row", [("edge", ["a", "b"]), ("edge", ["b", "c"])], ["a", "c"], half)
        self.assertEqual(lab.net("row")[2], ((1, 2),))
        two = (((2, 1), (-2, 1)), ((-2, 1), (2, 1)))
        self.merged(lab, "beside", [("edge", ["a", "b"]), ("edge", ["b", "a"])], ["a", "b"], two)
        self.merged(lab, "one", [("edge", ["a", "b"])], ["b"], (((0, 1),),))
        self.merged(lab, "star again", [("star", ["a", "b", "c"])], ["a", "b", "c"], table_by_hand(STAR))

    def test_onto_a_name_among_the_pieces(self):
        lab = full_lab()
        table = table_by_hand(WIDE)
        turned = tuple(tuple(table[i][j] for j in (1, 2, 3, 0)) for i in (1, 2, 3, 0))
        self.merged(lab, "wide", [("wide", ["a", "b", "c", "d"])], ["b", "c", "d", "a"], turned)
        # The row of an edge and what it has become, again and again.
        for k in range(2, 7):
            row = (((1, k), (-1, k)), ((-1, k), (1, k)))
            lab.read("edge", show_net(EDGE))
            lab.read("line", show_net((2, ((0,), (1,)), ((1, k - 1),))))
            self.merged(lab, "line", [("edge", ["a", "m"]), ("line", ["m", "b"])], ["a", "b"], row)

    def test_seven_names(self):
        lab = full_lab()
        names = list("abcdefg")
        pieces = [("edge", [one, other]) for one, other in zip(names, names[1:] + names[:1])]
        rows = [[0] * 7 for _ in range(7)]
        for i in range(7):
            rows[i][i], rows[i][(i + 1) % 7], rows[i][i - 1] = 2, -1, -1
        self.merged(lab, "ring", pieces, names, tuple(tuple((value, 1) for value in row) for row in rows))
        self.assertEqual(len(lab.net("ring")[2]), 7)

    def test_a_kept_name_that_is_in_no_piece(self):
        lab = full_lab()
        for name in ("edge", "new"):
            self.refused(lab, TableError, lambda: lab.merge(name, [("edge", ["a", "b"])], ["c"]))
            self.refused(lab, TableError, lambda: lab.merge(name, [("edge", ["a", "b"])], ["a", "b", "c"]))

    def test_a_table_that_no_net_in_the_disc_has(self):
        lab = full_lab()
        for name in ("edge", "new"):
            crossed = [("edge", ["a", "c"]), ("edge", ["b", "d"])]
            self.refused(lab, TableError, lambda: lab.merge(name, crossed, ["a", "b", "c", "d"]))
        self.assertIsNone(lab.merge("new", crossed, ["a", "c", "b", "d"]))
        self.assertEqual(lab.net("new")[2], ones(2))

    def test_kept_name_in_no_piece_and_a_net_that_is_missing(self):
        lab = full_lab()
        self.refused(lab, RimError, lambda: lab.merge("new", [("nobody", ["a", "b"])], ["c"]))


if __name__ == "__main__":
    unittest.main()
