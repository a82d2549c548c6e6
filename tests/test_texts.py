import unittest
from random import Random

from sumgrove.seals import Sealer
from sumgrove.texts import read_tree, write_tree
from sumgrove.trees import build, is_well_formed, summary_of
from tests.helper import CHARACTERS, PRIME, SEALER, leaf, letters, outcome, random_cuts, some_trees, told_cut

WHOLE = letters("bdfh")
TOLD = "cut 5 2 7 b d"


def lines(*parts):
    return "\n".join(parts)


def told(line, reason):
    return ("InvalidText", {"line": line, "reason": reason})


class WriteTest(unittest.TestCase):
    """Point 60."""

    def test_empty_tree(self):
        self.assertEqual(write_tree(None), "empty")

    def test_leaves(self):
        self.assertEqual(write_tree(leaf("a", (5,))), "leaf a 5 -")
        self.assertEqual(write_tree(leaf("a", (5,), (7,))), "leaf a 5 7")
        self.assertEqual(write_tree(leaf("abcdefgh", (0, 10, 10 ** 15), (0, 12, 3))),
                         "leaf abcdefgh 0,10,1000000000000000 0,12,3")
        self.assertEqual(write_tree(leaf("0", (0, 0), (0,))), "leaf 0 0,0 0")

    def test_cuts(self):
        self.assertEqual(write_tree(told_cut()), TOLD)
        self.assertEqual(write_tree(told_cut(0, 1, (0, 10 ** 24, 3), "a", "a")),
                         "cut 0 1 0,1000000000000000000000000,3 a a")

    def test_branches_in_preorder(self):
        self.assertEqual(write_tree(WHOLE), lines("branch", "branch", "leaf b 2 -", "leaf d 4 -", "branch",
                                                  "leaf f 6 -", "leaf h 8 -"))
        seal, count, sums, least, greatest = summary_of(SEALER, WHOLE[1])
        self.assertEqual((count, sums, least, greatest), (2, (6,), "b", "d"))
        self.assertEqual(write_tree(("branch", ("cut", summary_of(SEALER, WHOLE[1])), WHOLE[2])),
                         lines("branch", f"cut {seal} 2 6 b d", "branch", "leaf f 6 -", "leaf h 8 -"))


class ReadTest(unittest.TestCase):
    """Point 61: what is written is read."""

    def test_each_form(self):
        self.assertIsNone(read_tree(SEALER, "empty"))
        self.assertEqual(read_tree(SEALER, "leaf a 5 -"), leaf("a", (5,)))
        self.assertEqual(read_tree(SEALER, "leaf a 0,10,3 0,12"), leaf("a", (0, 10, 3), (0, 12)))
        self.assertEqual(read_tree(SEALER, TOLD), told_cut())
        self.assertEqual(read_tree(SEALER, lines("branch", TOLD, "leaf e 5 -")),
                         ("branch", told_cut(), leaf("e", (5,))))
        self.assertEqual(read_tree(SEALER, lines("branch", "branch", "leaf b 2 -", "leaf d 4 -", "branch",
                                                 "leaf f 6 -", "leaf h 8 -")), WHOLE)

    def test_many_trees(self):
        random = Random(4)
        for whole in some_trees(4, 120):
            cut_tree, _ = random_cuts(random, whole)
            for tree in (whole, cut_tree):
                text = write_tree(tree)
                self.assertEqual(read_tree(SEALER, text), tree)
                self.assertTrue(is_well_formed(SEALER, tree))
                self.assertEqual(len(text.split("\n")), text.count("\n") + 1)
                self.assertFalse(text.endswith("\n"))

    def test_deep_tree(self):
        tree = build([leaf("z" * length + character) for length in range(8) for character in CHARACTERS])
        self.assertEqual(read_tree(SEALER, write_tree(tree)), tree)

    def test_edges_of_integers(self):
        self.assertEqual(read_tree(SEALER, "leaf a 1000000000000000 2305843009213693952,0"),
                         leaf("a", (10 ** 15,), (PRIME + 1, 0)))
        self.assertEqual(read_tree(SEALER, f"cut {PRIME - 1} {10 ** 24} 0,{10 ** 24} a b"),
                         told_cut(PRIME - 1, 10 ** 24, (0, 10 ** 24), "a", "b"))


class ReasonsTest(unittest.TestCase):
    """Point 61: the reasons, each alone and in their order."""

    def check(self, text, line, reason, sealer=SEALER):
        self.assertEqual(outcome(read_tree, sealer, text), told(line, reason), text)

    def good(self, text, sealer=SEALER):
        tree = read_tree(sealer, text)
        self.assertTrue(is_well_formed(sealer, tree), text)
        self.assertEqual(write_tree(tree), text)

    def test_end(self):
        for first in ("empty", "leaf a 1 -", TOLD):
            self.check(lines(first, "leaf z 1 -"), 2, "end")
            self.check(lines(first, "empty"), 2, "end")
            self.check(lines(first, "what", "else"), 2, "end")
            self.check(first + "\n", 2, "end")
        self.check(lines("branch", "leaf a 1 -", "leaf z 1 -", ""), 4, "end")
        self.check(lines("branch", "leaf a 1 -", "leaf z 1 -", "branch"), 4, "end")

    def test_word(self):
        for line in ("", " ", " empty", " leaf a 1 -", "Leaf a 1 -", "leave a 1 -", "emptys", "empty\t", "leaf\ta 1 -",
                     "a leaf", "-", "branch\r", "cuts 5 2 7 b d", "leafbranch", "0", "emptyleaf"):
            self.check(line, 1, "word")
            self.check(lines("branch", line), 2, "word")
            self.check(lines("branch", "leaf a 1 -", line), 3, "word")
        self.check(lines("branch", "empty"), 2, "word")
        self.check(lines("branch", "empty more"), 2, "word")
        self.check(lines("branch", "leaf a 1 -", "empty"), 3, "word")
        self.check("\n", 1, "word")
        self.check("branch\n", 2, "word")
        self.check(lines("branch", "leaf a 1 -", ""), 3, "word")

    def test_form_of_words(self):
        for line in ("empty ", "empty empty", "branch ", "branch a", "branch a b", "leaf", "leaf a", "leaf a 1",
                     "leaf a 1 - -", "leaf a 1 - ", "leaf  a 1 -", "leaf a  1 -", "leaf a 1  -", "leaf  1 -",
                     "leaf a  -", "leaf a 1 ", "leaf ", "leaf   ", "cut", "cut 5 2 7 b", "cut 5 2 7 b d e",
                     "cut 5 2 7 b d ", "cut  5 2 7 b d", "cut 5 2  b d", "cut 5 2 7  d", "cut 5 2 7 b ",
                     "cut  2 7 b d", "cut 5  7 b d", "cut     "):
            self.check(line, 1, "form")
        self.check(lines("branch", "branch branch"), 2, "form")

    def test_form_of_integers(self):
        for word in ("", "-", "+", "+1", "-1", "01", "00", "x", "1x", "x1", "1.0", "1_0", "0x1", "1,", ",1", ",",
                     "1,,2", "1,-", "1,02", "1,+2", "1,-2", "1;2", "\u0661", "\u00b2", "1\u0661", "1\t", "1\r", "-0",
                     "1" + "0" * 25, "9" * 26, "0" * 25, "1," + "1" * 26, "1" * 5000):
            self.check(f"leaf a {word} -", 1, "form")
            self.check(f"cut 5 2 {word} b d", 1, "form")
            if word != "-":
                self.check(f"leaf a 1 {word}", 1, "form")
            if "," not in word:
                self.check(f"cut {word} 2 7 b d", 1, "form")
                self.check(f"cut 5 {word} 7 b d", 1, "form")
        self.check("leaf a 1 --", 1, "form")
        self.check("cut 5,5 2 7 b d", 1, "form")
        self.check("cut 5 2,2 7 b d", 1, "form")

    def test_25_digits_are_an_integer(self):
        most = "9" * 25
        self.check(f"leaf a {most} -", 1, "leaf")
        self.check(f"leaf a 1 {most}", 1, "leaf")
        self.check(f"cut {most} 2 7 b d", 1, "cut")
        self.check(f"cut 5 {most} 7 b d", 1, "cut")
        self.check(f"cut 5 2 {most} b d", 1, "cut")

    def test_leaf(self):
        for name in ("A", "a.b", "abcdefghi", "a\tb", "\u00e4", "-", "a,b"):
            self.check(f"leaf {name} 1 -", 1, "leaf")
        for worths in ("1,2,3,4", f"{10 ** 15 + 1}", f"0,{10 ** 15 + 1}"):
            self.check(f"leaf a {worths} -", 1, "leaf")
        for notes in (",".join(["0"] * 13), f"{PRIME + 2}", f"0,{PRIME + 2}"):
            self.check(f"leaf a 1 {notes}", 1, "leaf")
        self.check(lines("branch", "leaf a 1 -", "leaf Z 1 -"), 3, "leaf")
        self.good("leaf abcdefgh 0,1,2 -")
        self.good(f"leaf a {10 ** 15},{10 ** 15} {','.join(['0'] * 12)}")
        self.good(f"leaf a 1 {PRIME + 1},{PRIME + 1}")

    def test_cut(self):
        for line in ("cut 0 1 0 a a", "cut 100 1 0 a a", f"cut 5 {10 ** 24} 7 b d", f"cut 5 2 {10 ** 24} b d",
                     "cut 5 2 1,2,3 b d", "cut 5 2 7 abcdefgg abcdefgh"):
            self.good(line, Sealer(101))
        for line in ("cut 101 2 7 b d", "cut 102 2 7 b d", "cut 5 0 7 b d", "cut 5 0 7 b b",
                     f"cut 5 {10 ** 24 + 1} 7 b d", f"cut 5 2 {10 ** 24 + 1} b d", f"cut 5 2 0,{10 ** 24 + 1} b d",
                     "cut 5 2 1,2,3,4 b d", "cut 5 2 7 B d", "cut 5 2 7 b D", "cut 5 2 7 b abcdefghi",
                     "cut 5 2 7 - d", "cut 5 2 7 b b", "cut 5 2 7 d b", "cut 5 1 7 b d", "cut 5 1 7 d b",
                     "cut 5 1 7 B B"):
            self.check(line, 1, "cut", Sealer(101))

    def test_kinds(self):
        self.check(lines("branch", "leaf a 1 -", "leaf z 1,2 -"), 3, "kinds")
        self.check(lines("branch", "leaf a 1,2 -", "leaf z 1 -"), 3, "kinds")
        self.check(lines("branch", "leaf a 1,2,3 -", "cut 5 2 7,7 y z"), 3, "kinds")
        self.check(lines("branch", TOLD, "leaf z 1,2 -"), 3, "kinds")
        self.check(lines("branch", TOLD, "cut 5 2 7,7 y z"), 3, "kinds")
        # The first leaf or cut tells, not the one before.
        self.check(lines("branch", "branch", "leaf a 1 -", "leaf b 1,2 -", "leaf z 1,2 -"), 4, "kinds")
        self.check(lines("branch", "branch", "leaf a 1 -", "leaf b 1 -", "leaf z 1,2 -"), 5, "kinds")

    def test_missing(self):
        self.check("branch", 2, "missing")
        self.check(lines("branch", "leaf a 1 -"), 3, "missing")
        self.check(lines("branch", TOLD), 3, "missing")
        self.check(lines("branch", "branch", "leaf a 1 -", "leaf b 1 -"), 5, "missing")
        # Of the names nothing is said before all parts are there.
        self.check(lines("branch", "branch", "leaf z 1 -", "leaf a 1 -"), 5, "missing")

    def test_order(self):
        self.check(lines("branch", "leaf z 1 -", "leaf a 1 -"), 1, "order")
        self.check(lines("branch", "leaf a 1 -", "leaf a 1 -"), 1, "order")
        self.check(lines("branch", TOLD, "leaf c 1 -"), 1, "order")
        self.check(lines("branch", TOLD, "leaf d 1 -"), 1, "order")
        # The tree of f, h and i has the branch of f and h on the left: the same names in another shape.
        self.good(lines("branch", "branch", "leaf f 1 -", "leaf h 1 -", "leaf k 1 -"))
        self.check(lines("branch", "leaf f 1 -", "branch", "leaf h 1 -", "leaf k 1 -"), 1, "order")

    def test_order_tells_the_first_branch_in_preorder(self):
        self.check(lines("branch", "branch", "leaf d 1 -", "leaf b 1 -", "leaf z 1 -"), 2, "order")
        self.check(lines("branch", "leaf a 1 -", "branch", "leaf z 1 -", "leaf y 1 -"), 3, "order")
        self.check(lines("branch", "branch", "leaf d 1 -", "leaf b 1 -", "branch", "leaf z 1 -", "leaf y 1 -"), 2,
                   "order")
        self.check(lines("branch", "branch", "leaf z 1 -", "leaf y 1 -", "branch", "leaf d 1 -", "leaf b 1 -"), 1,
                   "order")

    def test_order_goes_by_the_outermost_names_of_a_side(self):
        self.check(lines("branch", "branch", "cut 5 2 7 b z", "leaf c 1 -", "leaf e 1 -"), 2, "order")
        self.check(lines("branch", "leaf c 1 -", "branch", "leaf e 1 -", "cut 5 2 7 b h"), 3, "order")

    def test_deep_texts(self):
        self.check("\n".join(["branch"] * 3000), 3001, "missing")
        self.check("\n".join(["branch"] * 3000 + ["leaf a 1 -"] * 3001), 1, "order")
        self.check("\n".join(["branch", "leaf a 1 -"] * 3000 + ["leaf b 1 -"]), 1, "order")


class FirstErrorTest(unittest.TestCase):
    """Point 61: the first line, and in it the first reason."""

    def check(self, text, line, reason):
        self.assertEqual(outcome(read_tree, SEALER, text), told(line, reason), text)

    def test_two_errors_in_one_line(self):
        self.check(lines("empty", "what"), 2, "end")
        self.check(lines("empty", "leaf A 01 -"), 2, "end")
        self.check(lines("branch", "empty 01"), 2, "word")
        self.check("what A 01 -", 1, "word")
        self.check("leaf A 01 -", 1, "form")
        self.check("leaf abcdefghi 1,2,3,4 - -", 1, "form")
        self.check("cut 5 0 07 b d", 1, "form")
        self.check(lines("branch", "leaf a 1 -", "leaf A 1,2 -"), 3, "leaf")
        self.check(lines("branch", "leaf a 1 -", "leaf b 1,2,3,4 -"), 3, "leaf")
        self.check(lines("branch", "leaf a 1 -", "cut 5 0 1,2 b d"), 3, "cut")
        self.check(lines("branch", "leaf z 1 -", "leaf a 1,2 -"), 3, "kinds")

    def test_errors_in_two_lines(self):
        self.check(lines("branch", "leaf A 1 -", "what"), 2, "leaf")
        self.check(lines("branch", "cut 5 0 7 b d", "leaf a 01 -"), 2, "cut")
        self.check(lines("branch", "leaf a 01 -", "what", "leaf a 1 -"), 2, "form")
        self.check(lines("branch", "leaf z 1 -", "leaf a 1 -", "leaf a 1 -"), 4, "end")
        self.check(lines("branch", "leaf a 1 -", "leaf z 1,2 -", "what"), 3, "kinds")
        self.check(lines("leaf A 1 -", "leaf a 1 -"), 1, "leaf")
        self.check(lines("branch", "branch", "leaf A 1 -"), 3, "leaf")
        self.check(lines("branch", "branch", "leaf z 1 -", "leaf a 1 -", "leaf A 1 -"), 5, "leaf")

    def test_the_kinds_are_those_of_the_first_right_line(self):
        # A wrong line ends the reading, so no later line is compared with it.
        self.check(lines("branch", "leaf A 1,2 -", "leaf b 1 -"), 2, "leaf")

    def test_empty_text(self):
        self.check("", 1, "word")


if __name__ == "__main__":
    unittest.main()
