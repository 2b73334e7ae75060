"""The document's points, one after another, over all modules with one set of nets."""

import copy
import random
import unittest
from fractions import Fraction
from math import gcd

from handmoves import all_moves, hand_move, scrambled
from nets import (
    DRAWINGS,
    all_joined,
    dense,
    grown,
    home_of,
    icosahedron,
    ladder,
    octahedron,
    renamed,
    widened,
)
from rimohms import errors
from rimohms.compare import alike, judge
from rimohms.drawing import check_net
from rimohms.edits import changed_table, merged_table
from rimohms.errors import MoveError, NetError, RatioError, RimError, TableError, TextError
from rimohms.lab import Lab
from rimohms.linear import determinant, solved
from rimohms.measure import currents, power, resistance, table_of, voltages
from rimohms.minors import circular_pairs, minor, refusal
from rimohms.moves import apply_move, apply_moves, leads
from rimohms.netmap import ends_of, left_face
from rimohms.numbering import numbered
from rimohms.paths import ways
from rimohms.ratio import is_ratio, less, minus, opposite, over, plus, ratio, times, total
from rimohms.rebuild import greatest_edge, greatest_spike, rebuild
from rimohms.reduction import fewest
from rimohms.shapes import amounts_for
from rimohms.standard import standard
from rimohms.strands import has_fewest, strand_edges, strand_ends
from rimohms.texts import parse_net, show_net
from rimohms.trees import forest_weight, tree_weight
from rimohms.views import dual, mirrored, turned
from tables import neighbours, table_from, without_edge, without_spike

NONE, ONE = (0, 1), (1, 1)
CROSSED = table_from({(1, 3): 1, (2, 4): 1}, 4)


def nets():
    yield from DRAWINGS.values()
    yield from (all_joined(4), octahedron(2), icosahedron(3), ladder([1, 2, 3], [1, 1, Fraction(1, 2)]))
    for seed in range(21):
        yield grown(1 + seed % 7, seed + 4, 900 + seed)
        yield dense(1 + seed % 7, 4 + seed % 6, 10 + seed, 900 + seed)


def is_plain(value):
    if type(value) in (tuple, list):
        return all(is_plain(part) for part in value)
    return value is None or type(value) in (int, str, bool)


def is_table(table, rim):
    return len(table) == rim and all(len(row) == rim and all(map(is_ratio, row)) for row in table)


def given_for(net):
    chance = random.Random(len(net[2]))
    values = [Fraction(chance.randint(-5, 5), chance.randint(1, 4)) for _ in range(net[0])]
    return [(value.numerator, value.denominator) for value in values]


class Points(unittest.TestCase):
    def test_one_after_another(self):
        points = [getattr(self, name) for name in sorted(dir(self)) if name.startswith("point_")]
        self.assertEqual(len(points), 12)
        for net in nets():
            for point in points:
                with self.subTest(point=point.__name__, net=net):
                    point(net)

    def point_03_main_promise(self, net):
        table = table_of(net)
        self.assertIsNone(refusal(table))
        built = rebuild(table)
        self.assertEqual(table_of(built), table)
        moves, least = fewest(net)
        self.assertEqual(len(built[2]), len(least[2]))
        self.assertTrue(leads(net, moves, least))
        answer = alike(net, built)
        self.assertEqual(answer[0], "alike")
        self.assertIs(judge(net, built, answer), True)

    def point_04_to_08_drawings(self, net):
        self.assertIsNone(check_net(net))
        home = home_of(net)
        self.assertEqual(ends_of(net), [(home[2 * k], home[2 * k + 1]) for k in range(len(net[2]))])
        for dart in home:
            walk = left_face(net, dart)
            self.assertEqual(walk[0], dart)
            for one, other in zip(walk, walk[1:]):
                self.assertEqual(home[one ^ 1], home[other])

    def point_09_texts(self, net):
        self.assertEqual(parse_net(show_net(net)), net)
        self.assertEqual(parse_net(f"\n# a net\n{show_net(net)}  # its end\n\n"), net)

    def point_10_to_13_measures(self, net):
        given = given_for(net)
        volts, flows, table = voltages(net, given), currents(net, given), table_of(net)
        self.assertEqual(volts[:net[0]], given)
        out = [NONE] * len(net[1])
        for (one, other), flow in zip(ends_of(net), flows):
            out[one - 1] = plus(out[one - 1], flow)
            out[other - 1] = minus(out[other - 1], flow)
        self.assertEqual(out[net[0]:], [NONE] * (len(net[1]) - net[0]))
        into = [total([times(value, volt) for value, volt in zip(row, given)]) for row in table]
        self.assertEqual(out[:net[0]], into)
        self.assertEqual(power(net, given), total([times(volt, flow) for volt, flow in zip(given, into)]))
        for node in range(1, len(net[1]) + 1):
            found = resistance(net, 1, node)
            if found not in (None, NONE):
                self.assertEqual(found, resistance(net, node, 1))
                self.assertTrue(less(NONE, found))

    def point_14_forests_and_trees(self, net):
        weight = forest_weight(net)
        self.assertTrue(less(NONE, weight))
        rim, trees = net[0], tree_weight(net)
        # A current from one rim node to the other goes over forests in which just these two are joined.
        if rim == 1:
            self.assertEqual(trees, weight)
        if rim == 2:
            self.assertEqual(opposite(table_of(net)[0][1]), over(trees, weight))
        inner = [[value for value in row[rim:]] for row in self.kirchhoff(net)[rim:]]
        self.assertEqual(determinant(inner), weight)
        if inner:
            given = given_for(net)
            rows = self.kirchhoff(net)[rim:]
            right = [opposite(total([times(value, volt) for value, volt in zip(row, given)])) for row in rows]
            self.assertEqual(solved(inner, right), voltages(net, given)[rim:])

    @staticmethod
    def kirchhoff(net):
        rows = [[NONE] * len(net[1]) for _ in net[1]]
        for (one, other), amount in zip(ends_of(net), net[2]):
            for at, to, sign in ((one, one, ONE), (other, other, ONE), (one, other, (-1, 1)), (other, one, (-1, 1))):
                rows[at - 1][to - 1] = plus(rows[at - 1][to - 1], times(sign, amount))
        return rows

    def point_15_to_19_signs(self, net):
        table = table_of(net)
        for heads, tails in circular_pairs(net[0]):
            value = minor(table, heads, tails)
            self.assertFalse(less(value, NONE))
            found = ways(net, heads, tails)
            self.assertIs(found is not None, less(NONE, value))
            if found is not None:
                self.assertEqual([way[0] for way in found], list(heads))
                self.assertEqual(sorted(way[-1] for way in found), sorted(tails))

    def point_20_to_22_moves(self, net):
        table = table_of(net)
        moves = [move for move in all_moves(net) if move[0] != "parallel"][:60]
        for move in moves:
            after = hand_move(net, move)
            if after is None:
                self.assertRaises(MoveError, apply_move, net, move)
                self.assertIs(leads(net, [move], net), False)
            else:
                self.assertEqual(apply_move(net, move), after)
                self.assertEqual(table_of(after), table)
        self.assertEqual(apply_moves(net, [("number",)]), numbered(net))

    def point_23_to_25_strands(self, net):
        crossed = sorted(edge for strand in strand_edges(net) for edge in strand)
        self.assertEqual(crossed, sorted(2 * list(range(len(net[2])))))
        least = fewest(net)[1]
        self.assertIs(has_fewest(least), True)
        self.assertIs(has_fewest(net), len(net[2]) == len(least[2]))
        self.assertEqual(strand_ends(scrambled(least, 1, 3)), strand_ends(least))
        table = table_of(net)
        if all(minor(table, heads, tails)[0] for heads, tails in circular_pairs(net[0])):
            self.assertEqual(len(least[2]), net[0] * (net[0] - 1) // 2)

    def point_26_to_28_standard_nets(self, net):
        moves, goal = standard(net)
        self.assertTrue(leads(net, moves, goal))
        self.assertIs(has_fewest(goal), True)
        self.assertEqual(numbered(goal), goal)
        least = fewest(net)[1]
        wide = widened(renamed(scrambled(least, 2, 3), 3), 4, 4)
        for other in (least, wide, rebuild(table_of(net))):
            self.assertEqual(standard(other)[1], goal)
        self.assertEqual(amounts_for((goal[0], goal[1], (ONE,) * len(goal[2])), table_of(net)), goal[2])
        if not has_fewest(net):
            self.assertRaises(NetError, amounts_for, net, table_of(net))

    def point_29_and_30_what_can_be_taken_off(self, net):
        table = table_of(net)
        little = Fraction(1, 10 ** 30)
        for i, j in neighbours(table):
            amount = Fraction(*greatest_edge(table, i, j))
            self.assertIsNone(refusal(without_edge(table, i, j, amount)))
            self.assertIsNotNone(refusal(without_edge(table, i, j, amount + little)))
        for i, row in enumerate(table, start=1):
            if row[i - 1] != NONE and greatest_spike(table, i) is not None:
                length = Fraction(*greatest_spike(table, i))
                self.assertIsNone(refusal(without_spike(table, i, length)))
                if length + little < 1 / Fraction(*row[i - 1]):
                    self.assertIsNotNone(refusal(without_spike(table, i, length + little)))

    def point_31_to_33_edits_and_views(self, net):
        table = table_of(net)
        for edge in range(len(net[2])):
            other = (net[0], net[1], net[2][:edge] + ((5, 7),) + net[2][edge + 1:])
            after = changed_table(table, net, edge, (5, 7))
            self.assertEqual(after, table_of(other))
            answer = alike(net, other)
            self.assertEqual(answer[0], "alike" if after == table else "unlike")
            self.assertIs(judge(net, other, answer), True)
        names = [str(node) for node in range(net[0])]
        self.assertEqual(merged_table([(table, names)], names), table)
        turn = names[1:] + names[:1]
        self.assertEqual(table_of(turned(net)), merged_table([(table, names)], turn))
        self.assertEqual(table_of(mirrored(net)), merged_table([(table, names)], names[::-1]))
        if resistance_is_told(net):
            self.assertEqual(table_of(dual(dual(net))), table_of(turned(net)))
            self.assertIs(has_fewest(dual(net)), has_fewest(net))
        else:
            self.assertRaises(NetError, dual, net)

    def point_34_lab(self, net):
        lab = Lab()
        lab.read("net", show_net(net))
        lab.read("fewest", show_net(net))
        moves = lab.shrink("fewest")
        self.assertTrue(leads(net, moves, lab.net("fewest")))
        self.assertEqual(lab.same("net", "fewest")[0], "alike")
        names = [str(node) for node in range(net[0])]
        lab.merge("merged", [("net", names)], names)
        self.assertEqual(lab.table("merged"), lab.table("net"))
        self.assertEqual(lab.same("merged", "fewest")[0], "alike")
        self.assertEqual(lab.names(), ["fewest", "merged", "net"])
        for edge in range(len(net[2])):
            lab.change("net", edge, (edge + 1, 1))
        lab.move("net", ("number",))
        self.assertEqual(lab.table("net"), table_of(lab.net("net")))
        self.assertEqual(parse_net(lab.text("net")), lab.net("net"))


def resistance_is_told(net):
    """True if all nodes are joined."""
    return all(resistance(net, 1, node) is not None for node in range(1, len(net[1]) + 1))


def calls(net):
    """Calls of all functions of the interface, each a function and a list of arguments."""
    table = table_of(net)
    lists = [list(map(list, table)), [list(pair) for pair in table[0]]]
    given = given_for(net)
    other = widened(net, 1, 2)
    answer = alike(net, other)
    names = ["a", "b", "a", "c", "d", "e", "f"][:net[0]]
    yield from (
        (ratio, [6, -4]), (plus, [(1, 2), (1, 3)]), (minus, [(1, 2), (1, 3)]), (times, [(1, 2), (2, 3)]),
        (over, [(1, 2), (1, 3)]), (opposite, [(1, 2)]), (less, [(1, 2), (1, 3)]), (total, [[(1, 2), (1, 3)]]),
        (is_ratio, [(1, 2)]), (check_net, [net]), (ends_of, [net]), (parse_net, [show_net(net)]), (show_net, [net]),
        (table_of, [net]), (voltages, [net, given]), (currents, [net, given]), (power, [net, given]),
        (resistance, [net, 1, len(net[1])]), (forest_weight, [net]), (tree_weight, [net]), (determinant, [lists[0]]),
        (solved, [[[(2, 1), (1, 1)], [(1, 1), (1, 1)]], [(1, 1), (0, 1)]]), (circular_pairs, [net[0]]),
        (refusal, [table]), (refusal, [CROSSED]), (apply_move, [net, ("number",)]), (apply_moves, [net, [("number",)]]),
        (leads, [net, [("number",)], net]), (strand_ends, [net]), (strand_edges, [net]), (has_fewest, [net]),
        (fewest, [net]), (numbered, [net]), (standard, [net]), (rebuild, [table]), (alike, [net, other]),
        (judge, [net, other, answer]), (merged_table, [[(table, names), (table, names)], ["a"]]), (turned, [net]),
        (mirrored, [net]), (amounts_for, [fewest(net)[1], table]),
    )
    if resistance_is_told(net):
        yield dual, [net]
    for heads, tails in circular_pairs(net[0])[:3]:
        yield minor, [table, heads, tails]
        yield ways, [net, heads, tails]
    for i, j in neighbours(table):
        yield greatest_edge, [table, i, j]
        yield greatest_spike, [table, i]
    if net[2]:
        yield left_face, [net, 0]
        yield changed_table, [table, net, 0, (2, 3)]


class AllFunctions(unittest.TestCase):
    def test_arguments_stay_and_answers_too(self):
        met = set()
        for net in nets():
            for function, arguments in calls(net):
                kept = copy.deepcopy(arguments)
                first = function(*arguments)
                self.assertEqual(arguments, kept, function)
                self.assertEqual(function(*arguments), first, function)
                self.assertEqual(arguments, kept, function)
                self.assertTrue(is_plain(first), function)
                met.add(function)
        self.assertEqual(len(met), 47)

    def test_ratios_are_in_lowest_terms(self):
        for net in nets():
            table = table_of(net)
            self.assertTrue(is_table(table, net[0]))
            for amounts in (rebuild(table)[2], standard(net)[1][2], mirrored(net)[2]):
                for top, bottom in amounts:
                    self.assertTrue(top > 0 and bottom > 0 and gcd(top, bottom) == 1)


class AllErrors(unittest.TestCase):
    KINDS = (RatioError, NetError, MoveError, TableError, TextError)

    def raised(self, kind, function, *arguments):
        with self.assertRaises(RimError) as caught:
            function(*arguments)
        self.assertIs(type(caught.exception), kind)
        self.assertIsInstance(caught.exception, ValueError)
        for other in self.KINDS:
            self.assertIs(isinstance(caught.exception, other), other is kind)

    def test_each_error(self):
        star, wide = DRAWINGS["star"], DRAWINGS["series"]
        self.raised(RatioError, ratio, 1, 0)
        self.raised(RatioError, over, (1, 2), (0, 1))
        self.raised(NetError, check_net, (0, (), ()))
        self.raised(NetError, parse_net, "rim 8")
        self.raised(TextError, parse_net, "rim 0")
        self.raised(MoveError, apply_move, star, ("star", 1))
        self.raised(MoveError, apply_moves, star, [("star", 4), ("star", 4)])
        self.raised(TableError, rebuild, CROSSED)
        self.raised(NetError, amounts_for, wide, table_of(wide))
        self.raised(TableError, merged_table, [(table_of(star), ["a", "b", "c"])], ["d"])
        self.raised(NetError, dual, (2, ((), ()), ()))
        lab = Lab()
        self.raised(TextError, lab.read, "a", "")
        self.raised(NetError, lab.read, "a", "rim 1")
        lab.read("a", show_net(star))
        self.raised(MoveError, lab.move, "a", ("loop", 0))
        self.raised(TableError, lab.merge, "b", [("a", ["x", "y", "z"])], ["w"])

    def test_numbers_of_any_length(self):
        # Python shows no number of more than 4300 digits.
        huge = 10 ** 5000
        for sign in (1, -1):
            for move in (("loop", huge), ("loose", huge), ("series", huge), ("star", huge), ("triangle", huge)):
                self.raised(MoveError, apply_move, DRAWINGS["star"], (move[0], sign * huge))
            self.raised(MoveError, apply_move, DRAWINGS["star"], ("parallel", 0, sign * huge))
        rim, turns, amounts = DRAWINGS["star"]
        net = (rim, turns, ((huge, 1), (1, huge), (huge, huge + 1)))
        self.assertEqual(amounts_for(DRAWINGS["star"], table_of(net)), net[2])
        self.assertEqual(standard(net)[1][2], standard(rebuild(table_of(net)))[1][2])

    def test_no_other_errors(self):
        kinds = [thing for thing in vars(errors).values() if isinstance(thing, type)]
        self.assertEqual(set(kinds), {RimError, *self.KINDS})


if __name__ == "__main__":
    unittest.main()
