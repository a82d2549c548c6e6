import unittest

from sumgrove.seals import Sealer
from sumgrove.trees import build, is_well_formed
from tests.helper import CHARACTERS, PRIME, SEALER, cut, leaf, letters, parts_of, some_trees, told_cut, with_cut_at


def depth_of(part):
    return 1 + max(depth_of(part[1]), depth_of(part[2])) if part[0] == "branch" else 0


class FormsTest(unittest.TestCase):
    """Points 20 to 22 and 25."""

    def good(self, tree, sealer=SEALER):
        self.assertIs(is_well_formed(sealer, tree), True, tree)

    def bad(self, tree, sealer=SEALER):
        self.assertIs(is_well_formed(sealer, tree), False, tree)

    def test_each_form(self):
        self.good(None)
        self.good(leaf("a"))
        self.good(told_cut())
        self.good(("branch", leaf("a"), leaf("b")))
        self.good(("branch", told_cut(), leaf("e")))
        self.good(("branch", leaf("0"), told_cut()))

    def test_built_and_cut_trees(self):
        for tree in some_trees(1):
            self.good(tree)
            for place in range(len(parts_of(tree))):
                self.good(with_cut_at(tree, place))

    def test_edges_of_leaves(self):
        self.good(leaf("a", (0,)))
        self.good(leaf("abcdefgh", (0, 10 ** 15, 1)))
        self.good(leaf("a", (1, 2)))
        self.good(leaf("a", (1,), (0,) * 12))
        self.good(leaf("a", (1,), (2305843009213693952,)))

    def test_leaves_that_break_a_rule(self):
        for name in ("", "abcdefghi", "A", "a b", "\u00e4"):
            self.bad(leaf(name))
        for worths in ((), (1, 2, 3, 4), (-1,), (10 ** 15 + 1,), (0, -1), (0, 0, 10 ** 15 + 1)):
            self.bad(leaf("a", worths))
        for notes in ((0,) * 13, (-1,), (2305843009213693953,), (0, 0, -1)):
            self.bad(leaf("a", (1,), notes))

    def test_edges_of_cuts(self):
        self.good(told_cut(seal=0))
        self.good(told_cut(seal=PRIME - 1))
        self.good(told_cut(seal=100), Sealer(101))
        self.good(told_cut(count=1, least="b", greatest="b"))
        self.good(told_cut(count=10 ** 24))
        self.good(told_cut(sums=(0,)))
        self.good(told_cut(sums=(0, 10 ** 24)))
        self.good(told_cut(sums=(10 ** 24, 1, 1)))
        self.good(told_cut(least="a", greatest="a0"))

    def test_cuts_that_break_a_rule(self):
        self.bad(told_cut(seal=-1))
        self.bad(told_cut(seal=PRIME))
        self.bad(told_cut(seal=101), Sealer(101))
        self.bad(told_cut(count=0, least="b", greatest="b"))
        self.bad(told_cut(count=0))
        self.bad(told_cut(count=-1))
        self.bad(told_cut(count=10 ** 24 + 1))
        for sums in ((), (1, 2, 3, 4), (-1,), (10 ** 24 + 1,), (1, -1), (1, 1, 10 ** 24 + 1)):
            self.bad(told_cut(sums=sums))
        self.bad(told_cut(count=1))
        self.bad(told_cut(count=1, least="d", greatest="b"))
        self.bad(told_cut(least="b", greatest="b"))
        self.bad(told_cut(least="d", greatest="b"))
        for name in ("", "abcdefghi", "A"):
            self.bad(told_cut(least=name, greatest="zzz"))
            self.bad(told_cut(least="0", greatest=name))
            self.bad(told_cut(count=1, least=name, greatest=name))
        self.bad(told_cut(least="b", greatest="c" * 9))

    def test_kinds_are_the_same_everywhere(self):
        self.bad(("branch", leaf("a", (1,)), leaf("b", (1, 2))))
        self.bad(("branch", leaf("a", (1, 2)), told_cut(sums=(1,))))
        self.bad(("branch", told_cut(sums=(1, 2)), leaf("e", (1,))))
        self.bad(("branch", told_cut(sums=(1, 2)), told_cut(sums=(1,), least="e", greatest="f")))
        self.good(("branch", told_cut(sums=(1, 2)), told_cut(sums=(1, 1), least="e", greatest="f")))
        self.bad(("branch", ("branch", leaf("a"), leaf("b")), leaf("e", (1, 2))))

    def test_none_as_a_side(self):
        self.bad(("branch", None, leaf("a")))
        self.bad(("branch", leaf("a"), None))
        self.bad(("branch", None, None))
        self.bad(("branch", ("branch", None, leaf("a")), leaf("e")))

    def test_a_bad_part_at_any_place(self):
        good, bad = leaf("a"), leaf("A")
        self.bad(("branch", bad, leaf("b")))
        self.bad(("branch", good, bad))
        self.bad(("branch", leaf("0"), ("branch", good, told_cut(count=0))))

    def test_sides_in_order(self):
        self.bad(("branch", leaf("b"), leaf("a")))
        self.bad(("branch", leaf("a"), leaf("a")))
        self.bad(("branch", told_cut(), told_cut()))
        self.bad(("branch", told_cut(least="b", greatest="d"), leaf("c")))

    def test_bits_before_the_place_of_parting(self):
        # The bits of the letters: b 001101, c 001110, d 001111, e 010000, f 010001, h 010011.
        self.good(("branch", told_cut(least="b", greatest="d"), told_cut(least="e", greatest="h")))
        # The sides part at place 1; the least name of the right side has the bit 0 there.
        self.bad(("branch", leaf("b"), told_cut(least="c", greatest="h")))
        # The greatest name of the left side has the bit 1 there.
        self.bad(("branch", told_cut(least="b", greatest="e"), leaf("h")))
        # The right bits at the place, but other bits before it: only the left greatest name is off ...
        self.good(("branch", told_cut(least="e", greatest="f"), told_cut(least="g", greatest="h")))
        self.bad(("branch", told_cut(least="e", greatest="m"), told_cut(least="g", greatest="h")))
        # ... or only the right least name.
        self.bad(("branch", told_cut(least="e", greatest="f"), told_cut(least="c", greatest="h")))
        # Both outer names are equal: they part nowhere.
        self.bad(("branch", told_cut(least="b", greatest="d"), told_cut(least="a", greatest="b")))
        # The outer names have the bits 1 and 0 where they part.
        self.bad(("branch", told_cut(least="h", greatest="i"), told_cut(least="a", greatest="e")))

    def test_wrong_shape_of_right_leaves(self):
        self.bad(("branch", ("branch", leaf("b"), leaf("e")), leaf("f")))
        self.good(("branch", leaf("b"), ("branch", leaf("e"), leaf("f"))))

    def test_no_bound_for_a_branch(self):
        # Only cuts have a bound for counts and sums (point 25).
        big = 10 ** 24
        right = told_cut(count=big, sums=(big,), least="e", greatest="f")
        self.good(("branch", told_cut(count=big, sums=(big,)), right))

    def test_the_deepest_tree(self):
        # The code of t is 31, 011111: names that part from it at each of the 48 places can be found.
        tree = build([leaf("t" * length + last) for length in range(8) for last in CHARACTERS])
        self.good(tree)
        self.assertEqual(depth_of(tree), 48)

    def test_trees_that_are_too_deep(self):
        left = right = leaf("a")
        for _ in range(5000):
            left, right = ("branch", left, leaf("b")), ("branch", leaf("0"), right)
        self.bad(left)
        self.bad(right)

    def test_one_part_at_many_places(self):
        tree = letters("bdfh")
        for _ in range(60):
            tree = ("branch", tree, tree)
        self.bad(tree)

    def test_cut_of_one_leaf(self):
        self.good(cut(leaf("a", (3, 4))))


if __name__ == "__main__":
    unittest.main()
