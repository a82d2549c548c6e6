import unittest
from itertools import permutations
from random import Random

from sumgrove.errors import NoSuchName, NotShown
from sumgrove.trees import build, drop, get, is_well_formed, leaves_of, put
from tests.helper import (SEALER, bits_of, cut, leaf, letters, outcome, parts_of, random_cuts, random_name, some_names,
                          some_trees, told_cut, with_cuts)

# Left b and d, right f and h; c is between b and d, e and g are near f and h.
B, D, F, H = [leaf(name, (ord(name) - 96,)) for name in "bdfh"]
LEFT, RIGHT = ("branch", B, D), ("branch", F, H)
WHOLE = ("branch", LEFT, RIGHT)


class BuildTest(unittest.TestCase):
    """Point 26."""

    def test_small_trees(self):
        self.assertIsNone(build([]))
        self.assertEqual(build([B]), B)
        self.assertEqual(build([F, B, H, D]), WHOLE)

    def test_each_order_gives_the_same_tree(self):
        leaves = [leaf(name) for name in ("a", "a0", "ab", "0", "zz")]
        tree = build(leaves)
        self.assertTrue(is_well_formed(SEALER, tree))
        for order in permutations(leaves):
            self.assertEqual(build(list(order)), tree)

    def test_the_list_stays_as_it_was(self):
        leaves = [F, B, H, D]
        build(leaves)
        self.assertEqual(leaves, [F, B, H, D])

    def test_many_leaves(self):
        random = Random(2)
        for _ in range(40):
            leaves = [leaf(name) for name in sorted({random_name(random) for _ in range(20)})]
            shuffled = random.sample(leaves, len(leaves))
            tree = build(shuffled)
            self.assertTrue(is_well_formed(SEALER, tree))
            self.assertEqual(leaves_of(tree), leaves)
            self.assertEqual(tree, build(leaves))


class LeavesOfTest(unittest.TestCase):
    def test_open_leaves_alone(self):
        self.assertEqual(leaves_of(None), [])
        self.assertEqual(leaves_of(B), [B])
        self.assertEqual(leaves_of(cut(WHOLE)), [])
        self.assertEqual(leaves_of(WHOLE), [B, D, F, H])
        self.assertEqual(leaves_of(("branch", cut(LEFT), RIGHT)), [F, H])
        self.assertEqual(leaves_of(("branch", ("branch", B, cut(D)), cut(RIGHT))), [B])

    def test_a_new_list_each_time(self):
        leaves_of(WHOLE).clear()
        self.assertEqual(leaves_of(WHOLE), [B, D, F, H])


class GetTest(unittest.TestCase):
    """Point 27: getting."""

    def test_whole_trees(self):
        self.assertIsNone(get(None, "a"))
        self.assertEqual(get(B, "b"), B)
        self.assertIsNone(get(B, "a"))
        for part in (B, D, F, H):
            self.assertEqual(get(WHOLE, part[1]), part)
        for name in ("a", "b0", "c", "d0", "e", "ezzzzzzz", "g", "i", "0", "z"):
            self.assertIsNone(get(WHOLE, name))

    def test_cut_on_the_way(self):
        tree = ("branch", cut(LEFT), RIGHT)
        for name in ("b", "b0", "c", "czzzzzzz", "d"):
            self.assertEqual(outcome(get, tree, name), ("NotShown", {"name": name}))
        for name in ("a", "azzzzzzz", "d0", "e", "g"):
            self.assertIsNone(get(tree, name))
        self.assertEqual(get(tree, "f"), F)

    def test_cut_of_one_leaf(self):
        tree = ("branch", LEFT, ("branch", F, cut(H)))
        self.assertEqual(outcome(get, tree, "h"), ("NotShown", {"name": "h"}))
        for name in ("g", "h0", "i"):
            self.assertIsNone(get(tree, name))

    def test_cut_tree(self):
        with self.assertRaises(NotShown):
            get(cut(WHOLE), "e")
        self.assertIsNone(get(cut(WHOLE), "a"))


class PutTest(unittest.TestCase):
    """Point 27: putting."""

    def test_whole_trees(self):
        self.assertEqual(put(None, B), B)
        self.assertEqual(put(B, D), LEFT)
        self.assertEqual(put(D, B), LEFT)
        new = leaf("f", (99,), (1, 2))
        self.assertEqual(put(WHOLE, new), ("branch", LEFT, ("branch", new, H)))
        self.assertEqual(put(F, new), new)
        self.assertEqual(put(RIGHT, D), ("branch", D, RIGHT))
        self.assertEqual(put(LEFT, F), ("branch", LEFT, F))
        self.assertEqual(put(WHOLE, leaf("e")), ("branch", LEFT, ("branch", ("branch", leaf("e"), F), H)))

    def test_cut_that_the_name_goes_into(self):
        # The bits of b and d part at place 4 behind 0011: a, b, c, d and what begins with them go into the cut.
        tree = ("branch", cut(LEFT), RIGHT)
        for name in ("a", "azzzzzzz", "b", "c", "d", "d0"):
            self.assertEqual(outcome(put, tree, leaf(name)), ("NotShown", {"name": name}))
        self.assertEqual(put(tree, leaf("e")), ("branch", cut(LEFT), ("branch", ("branch", leaf("e"), F), H)))
        for name in ("9", "_"):
            self.assertEqual(put(tree, leaf(name)), ("branch", ("branch", leaf(name), cut(LEFT)), RIGHT))

    def test_cut_beside_the_name(self):
        self.assertEqual(put(cut(LEFT), F), ("branch", cut(LEFT), F))
        self.assertEqual(put(cut(RIGHT), B), ("branch", B, cut(RIGHT)))
        self.assertEqual(put(cut(RIGHT), leaf("m")), ("branch", cut(RIGHT), leaf("m")))

    def test_cut_of_one_leaf(self):
        tree = ("branch", F, cut(H))
        self.assertEqual(outcome(put, tree, leaf("h", (3,))), ("NotShown", {"name": "h"}))
        self.assertEqual(put(tree, leaf("h0")), ("branch", F, ("branch", cut(H), leaf("h0"))))
        self.assertEqual(put(tree, leaf("g")), ("branch", F, ("branch", leaf("g"), cut(H))))

    def test_the_earlier_tree_stays(self):
        before = repr(WHOLE)
        put(WHOLE, leaf("f", (99,)))
        put(WHOLE, leaf("e"))
        self.assertEqual(repr(WHOLE), before)


class DropTest(unittest.TestCase):
    """Point 27: dropping."""

    def test_whole_trees(self):
        self.assertIsNone(drop(B, "b"))
        self.assertEqual(drop(LEFT, "b"), D)
        self.assertEqual(drop(LEFT, "d"), B)
        self.assertEqual(drop(WHOLE, "b"), ("branch", D, RIGHT))
        self.assertEqual(drop(WHOLE, "h"), ("branch", LEFT, F))

    def test_no_such_name(self):
        for name in ("a", "c", "b0", "e", "g", "i"):
            self.assertEqual(outcome(drop, WHOLE, name), ("NoSuchName", {"name": name}))
        with self.assertRaises(NoSuchName):
            drop(None, "a")
        with self.assertRaises(NoSuchName):
            drop(B, "a")

    def test_cuts(self):
        tree = ("branch", cut(LEFT), RIGHT)
        for name in ("b", "c", "d"):
            self.assertEqual(outcome(drop, tree, name), ("NotShown", {"name": name}))
        for name in ("a", "d0", "e", "i"):
            self.assertEqual(outcome(drop, tree, name), ("NoSuchName", {"name": name}))
        self.assertEqual(drop(tree, "f"), ("branch", cut(LEFT), H))
        self.assertEqual(drop(("branch", F, cut(H)), "f"), cut(H))
        self.assertEqual(drop(("branch", cut(F), H), "h"), cut(F))
        self.assertEqual(outcome(drop, ("branch", F, cut(H)), "h"), ("NotShown", {"name": "h"}))
        self.assertEqual(outcome(drop, cut(WHOLE), "e"), ("NotShown", {"name": "e"}))
        self.assertEqual(outcome(drop, cut(WHOLE), "a"), ("NoSuchName", {"name": "a"}))

    def test_the_earlier_tree_stays(self):
        before = repr(WHOLE)
        drop(WHOLE, "b")
        self.assertEqual(repr(WHOLE), before)


class AgainstBuildingTest(unittest.TestCase):
    """Point 27 on many trees with cuts: the result is that of building from nothing, with the cuts."""

    def test_trees_with_cuts(self):
        random = Random(3)
        for whole in some_trees(3, 150):
            tree, cuts = random_cuts(random, whole)
            leaves = {part[1]: part for part in leaves_of(whole)}
            for name in some_names(sorted(leaves), len(leaves)):
                self.check_get_and_drop(tree, cuts, leaves, name)
                self.check_put(tree, cuts, leaves, name)

    def check_get_and_drop(self, tree, cuts, leaves, name):
        if any(part[1][3] <= name <= part[1][4] for part in cuts):
            expected = ("NotShown", {"name": name})
            self.assertEqual(outcome(get, tree, name), expected)
            self.assertEqual(outcome(drop, tree, name), expected)
            return
        self.assertEqual(get(tree, name), leaves.get(name))
        if name not in leaves:
            self.assertEqual(outcome(drop, tree, name), ("NoSuchName", {"name": name}))
            return
        rest = build([part for other, part in leaves.items() if other != name])
        self.assertEqual(drop(tree, name), with_cuts(rest, cuts))

    def check_put(self, tree, cuts, leaves, name):
        new = leaf(name, (100, 100), (5,))
        changed = build(list({**leaves, name: new}.values()))
        # A name goes into a cut if the whole part behind the cut is another one afterwards.
        kept = [cut(part) for part in parts_of(changed)]
        if any(part not in kept for part in cuts):
            self.assertEqual(outcome(put, tree, new), ("NotShown", {"name": name}))
        else:
            self.assertEqual(put(tree, new), with_cuts(changed, cuts))

    def test_all_single_letters(self):
        for first in "abcdefgh":
            for second in "ijklmnop":
                tree = letters(first + second)
                for name in "abcdefghijklmnopqrstuvwxyz":
                    expected = build([part for part in leaves_of(tree) if part[1] != name] + [leaf(name)])
                    self.assertEqual(put(tree, leaf(name)), expected)

    def test_going_into_a_told_cut(self):
        for least, greatest in (("b", "d"), ("a", "a0"), ("a", "z"), ("b", "c")):
            same = [a for a, b in zip(bits_of(least), bits_of(greatest))]
            place = next(i for i in range(48) if bits_of(least)[i] != bits_of(greatest)[i])
            part = told_cut(least=least, greatest=greatest)
            for name in "0_abcdefghijklmnopqrstuvwxyz":
                goes = bits_of(name)[:place] == "".join(same[:place])
                self.assertEqual(outcome(put, part, leaf(name))[0], "NotShown" if goes else "returned")


if __name__ == "__main__":
    unittest.main()
