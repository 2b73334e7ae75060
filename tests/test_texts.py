import unittest

from nets import DRAWINGS, SERIES, STAR, chain_net, grown
from rimohms.errors import NetError, RimError, TextError
from rimohms.texts import parse_net, show_net

STAR_TEXT = "rim 3\nnode 0\nnode 2\nnode 4\nnode 1 3 5\nedge 1\nedge 1\nedge 1"


class Parse(unittest.TestCase):
    def test_plain(self):
        self.assertEqual(parse_net(STAR_TEXT), STAR)
        self.assertEqual(parse_net("rim 2\nnode 0\nnode 3\nnode 1 2\nedge 1\nedge 1/2\n"), SERIES)

    def test_kinds(self):
        rim, turns, amounts = parse_net(STAR_TEXT)
        self.assertIs(type(rim), int)
        self.assertEqual({type(part) for part in (turns, amounts, turns[0], amounts[0])}, {tuple})

    def test_comments_and_spaces(self):
        text = (
            "# a star\n\n   \n  rim   3 # three\nnode 0#dart\n  node 2\n#node 9\nnode   4  \n\nnode  1 3   5 ## x\n"
            "edge 1\n # rim 9\nedge 1 #/2\nedge 1/1\n\n#"
        )
        self.assertEqual(parse_net(text), STAR)

    def test_all_characters_in_comments(self):
        marks = "".join(chr(k) for k in range(32, 127))
        self.assertEqual(parse_net(f"#{marks}\nrim 1 #{marks}\nnode#{marks}\n"), (1, ((),), ()))

    def test_leading_zeros(self):
        text = "rim 000000002\nnode 00 000000002\nnode 03 01\nedge 010/004\nedge 007"
        self.assertEqual(parse_net(text), (2, ((0, 2), (3, 1)), ((5, 2), (7, 1))))

    def test_not_in_lowest_terms(self):
        for words, amount in (("2/4", (1, 2)), ("4/2", (2, 1)), ("999999999/999999999", (1, 1)), ("3/1", (3, 1)),
                              ("999999999", (999999999, 1)), ("1/999999999", (1, 999999999))):
            self.assertEqual(parse_net(f"rim 2\nnode 0\nnode 1\nedge {words}"), (2, ((0,), (1,)), (amount,)))

    def test_node_lines_without_darts(self):
        self.assertEqual(parse_net("rim 3\nnode\nnode \n node#\n"), (3, ((), (), ()), ()))

    def test_line_feed_at_the_end(self):
        for end in ("", "\n", "\n\n", "\n \n#"):
            self.assertEqual(parse_net(STAR_TEXT + end), STAR)


class WrongLine(unittest.TestCase):
    def wrong(self, text, line):
        with self.assertRaises(TextError) as caught:
            parse_net(text)
        self.assertEqual(caught.exception.line, line, text)

    def test_no_word(self):
        self.wrong("", 1)
        self.wrong("\n", 2)
        self.wrong("\n\n\n", 4)
        self.wrong("   ", 1)
        self.wrong("# rim 3", 1)
        self.wrong("# rim 3\n", 2)
        self.wrong("\n #\n  ", 3)

    def test_unknown_words(self):
        self.wrong("hello", 1)
        self.wrong("rim 1\nnodes\n", 2)
        self.wrong("rim 1\nnode\nNODE\n", 3)
        self.wrong("\nRim 1\n", 2)
        self.wrong("rim 2\nnode 0\nnode 1\n\nedges 1", 5)
        self.wrong("rim 1\nnode\n0", 3)
        self.wrong("rim1", 1)

    def test_missing_rim_line(self):
        self.wrong("node 0\nrim 1", 1)
        self.wrong("#\nedge 1\nrim 1", 2)
        self.wrong("3\nrim 1", 1)

    def test_second_rim_line(self):
        self.wrong("rim 1\nrim 1\nnode", 2)
        self.wrong("rim 1\nnode\nrim 1", 3)
        self.wrong("rim 2\nnode 0\nnode 1\nedge 1\nrim 2", 5)

    def test_node_behind_edge(self):
        self.wrong("rim 2\nnode 0\nedge 1\nnode 1", 4)
        self.wrong("rim 2\nnode 0\nnode 1\nedge 1\n\nnode", 6)

    def test_rim_line(self):
        for words in ("rim", "rim 0", "rim 000", "rim 3 4", "rim 3 #\nrim", "rim x", "rim -1", "rim +1", "rim 3/1",
                      "rim 0000000003", "rim 1234567890", "rim 1.0", "rim 1_0", "rim 0x1"):
            line = words.count("\n") + 1
            self.wrong(f"{words}\nnode\nnode\nnode", line)

    def test_node_line(self):
        for words in ("x", "-1", "+1", "0 x", "0 1 -2", "0,1", "0/1", "0000000000", "1234567890", "0 1 1.5", "1_0"):
            self.wrong(f"rim 1\nnode {words}\nedge 1", 2)

    def test_edge_line(self):
        for words in ("", "0", "000", "0/1", "1/0", "1/000", "0/0", "1 2", "1 /2", "1/ 2", "1 / 2", "/", "/2", "1/",
                      "1/2/3", "1//2", "x", "1/x", "-1", "1/-2", "+1", "1/+2", "0000000001", "1/0000000001",
                      "1234567890/3", "1.5", "1/2 #\nedge 0"):
            line = 4 + words.count("\n")
            self.wrong(f"rim 2\nnode 0\nnode 1\nedge {words}\nedge 1", line)

    def test_other_characters(self):
        for mark in ("\t", "\r", "\0", "\x0b", "\x0c", "\x1c", "\x7f", "\x80", "\x85", "\xa0", "\xe9", "\u2028", "\u0663"):
            self.wrong(f"rim 1\nnode{mark}\n", 2)
            self.wrong(f"rim{mark}1\nnode\n", 1)
            self.wrong(f"rim 1\nnode\n{mark}", 3)
            self.wrong(f"rim 1\n# {mark}\nnode\n", 2)
            self.wrong(f"rim 2\nnode 0\nnode 1\nedge 1{mark}\n", 4)
        self.wrong("rim 1\r\nnode\r\n", 1)

    def test_first_wrong_line(self):
        self.wrong("rim 1\nnode x\n\t\nedge 0", 2)
        self.wrong("\t\nrim 0", 1)
        self.wrong("rim 9\nnode 0 0 7\nedge 1\nedge 0", 4)
        self.wrong("rim 0\nrim 1\nnode", 1)

    def test_wrong_line_before_wrong_net(self):
        self.wrong("rim 8\nedge", 2)
        self.wrong("rim 2\nnode 5\nnode 5\nedge 1\nedge -1", 5)

    def test_is_rim_error(self):
        with self.assertRaises(RimError):
            parse_net("")


class WrongNet(unittest.TestCase):
    def test_no_drawing(self):
        edges = "\n".join(["edge 1"] * 61)
        for text in ("rim 8\n" + "node\n" * 8, "rim 1", "rim 3\nnode\nnode", "rim 1\nnode\nedge 1", "rim 1\nnode 0",
                     "rim 1\nedge 1", "rim 999999999\nnode", "rim 1\nnode 999999999",
                     "rim 2\nnode 0 0\nnode 1\nedge 1", "rim 2\nnode 0 2\nnode 1 3\nedge 1\nedge 1",
                     "rim 1\nnode\nnode", "rim 1\nnode\nnode 0 1\nedge 2/3",
                     "rim 1\nnode " + " ".join(str(dart) for dart in range(122)) + "\n" + edges):
            with self.assertRaises(NetError):
                parse_net(text)

    def test_sixty_edges(self):
        self.assertEqual(parse_net(show_net(chain_net(60))), chain_net(60))
        with self.assertRaises(NetError):
            parse_net(show_net(chain_net(61)))


class Show(unittest.TestCase):
    def test_plain(self):
        self.assertEqual(show_net(STAR), STAR_TEXT)
        self.assertEqual(show_net(SERIES), "rim 2\nnode 0\nnode 3\nnode 1 2\nedge 1\nedge 1/2")

    def test_no_darts(self):
        self.assertEqual(show_net((2, ((), ()), ())), "rim 2\nnode\nnode")

    def test_there_and_back(self):
        for net in DRAWINGS.values():
            self.assertEqual(parse_net(show_net(net)), net)
        for seed in range(60):
            net = grown(1 + seed % 7, seed, seed)
            text = show_net(net)
            self.assertEqual(parse_net(text), net)
            self.assertEqual(show_net(parse_net(text)), text)

    def test_long_numbers(self):
        for zeros in (9, 10, 58, 59, 60, 61, 119, 120, 121, 300, 3999, 4299, 4300, 6000):
            top = 10 ** zeros + 1
            net = (2, ((0, 2), (3, 1)), ((top, 10 ** zeros), (top - 1, 1)))
            one = "1" + "0" * zeros
            long = "1" + "0" * (zeros - 1) + "1"
            self.assertEqual(show_net(net), f"rim 2\nnode 0 2\nnode 3 1\nedge {long}/{one}\nedge {one}")

    def test_all_digits(self):
        digits = "1234567890" * 30
        net = (2, ((0,), (1,)), ((int(digits), 7),))
        self.assertEqual(show_net(net), f"rim 2\nnode 0\nnode 1\nedge {digits}/7")

    def test_again(self):
        self.assertEqual(show_net(STAR), show_net(STAR))
        self.assertEqual(parse_net(STAR_TEXT), parse_net(STAR_TEXT))


if __name__ == "__main__":
    unittest.main()
