import unittest
from random import Random

from sumgrove.checking import answer
from sumgrove.pruning import open_count, prune, prune_for
from sumgrove.questions import ask
from sumgrove.trees import drop, get, is_well_formed, leaves_of, put, root_of
from tests.helper import (SEALER, bits_of, cut, leaf, letters, outcome, parts_of, random_cuts, some_names, some_trees,
                          told_cut, with_cut_at)
from tests.test_questions import some_questions

WHOLE = letters("bdfh")
LEFT, RIGHT = WHOLE[1], WHOLE[2]
B, D, F, H = leaves_of(WHOLE)


def goes(name, part):
    """Point 35, word for word, on the bits and the leaves of a whole part."""
    names = [one[1] for one in leaves_of(part)]
    if len(names) == 1:
        return name == names[0]
    first, last = bits_of(names[0]), bits_of(names[-1])
    place = next(i for i in range(48) if first[i] != last[i])
    return bits_of(name)[:place] == first[:place]


def pruned(part, names):
    if not any(goes(name, part) for name in names):
        return cut(part)
    if part[0] == "leaf":
        return part
    return ("branch", pruned(part[1], names), pruned(part[2], names))


class PruneTest(unittest.TestCase):
    """Point 35."""

    def test_no_names(self):
        self.assertEqual(prune(SEALER, WHOLE, []), cut(WHOLE))
        self.assertEqual(prune(SEALER, B, []), cut(B))

    def test_names_of_leaves(self):
        self.assertEqual(prune(SEALER, WHOLE, ["b"]), ("branch", ("branch", B, cut(D)), cut(RIGHT)))
        self.assertEqual(prune(SEALER, WHOLE, ["h"]), ("branch", cut(LEFT), ("branch", cut(F), H)))
        self.assertEqual(prune(SEALER, WHOLE, ["h", "b"]), ("branch", ("branch", B, cut(D)), ("branch", cut(F), H)))
        self.assertEqual(prune(SEALER, WHOLE, ["b", "d", "f", "h", "b"]), WHOLE)
        self.assertEqual(prune(SEALER, B, ["b"]), B)

    def test_other_names(self):
        self.assertEqual(prune(SEALER, WHOLE, ["c"]), ("branch", ("branch", cut(B), cut(D)), cut(RIGHT)))
        self.assertEqual(prune(SEALER, WHOLE, ["a"]), ("branch", ("branch", cut(B), cut(D)), cut(RIGHT)))
        self.assertEqual(prune(SEALER, WHOLE, ["9"]), ("branch", cut(LEFT), cut(RIGHT)))
        self.assertEqual(prune(SEALER, WHOLE, ["e"]), ("branch", cut(LEFT), ("branch", cut(F), cut(H))))
        self.assertEqual(prune(SEALER, B, ["c"]), cut(B))
        self.assertEqual(prune(SEALER, RIGHT, ["c"]), cut(RIGHT))

    def test_empty_tree(self):
        self.assertIsNone(prune(SEALER, None, []))
        self.assertIsNone(prune(SEALER, None, ["a"]))

    def test_trees_with_cuts(self):
        tree = ("branch", told_cut(), RIGHT)
        self.assertEqual(prune(SEALER, tree, ["b", "f"]), ("branch", told_cut(), ("branch", F, cut(H))))
        self.assertEqual(prune(SEALER, tree, ["c"]), ("branch", told_cut(), cut(RIGHT)))
        self.assertEqual(prune(SEALER, tree, []), cut(tree))
        self.assertEqual(prune(SEALER, told_cut(), ["c"]), told_cut())
        self.assertEqual(prune(SEALER, told_cut(), []), told_cut())

    def test_the_list_of_names_stays(self):
        names = ["h", "b"]
        prune(SEALER, WHOLE, names)
        self.assertEqual(names, ["h", "b"])

    def test_many_trees(self):
        random = Random(5)
        for tree in some_trees(5, 100):
            present = [one[1] for one in leaves_of(tree)]
            names = random.sample(some_names(present, 5), 3)
            expected = None if tree is None else pruned(tree, names)
            actual = prune(SEALER, tree, names)
            self.assertEqual(actual, expected)
            self.assertTrue(is_well_formed(SEALER, actual))
            self.assertEqual(root_of(SEALER, actual), root_of(SEALER, tree))
            self.check_work(tree, actual, names)

    def check_work(self, tree, shown, names):
        """Getting, putting and dropping the names, one after the other, works as on the whole tree."""
        for name in names:
            self.assertEqual(get(shown, name), get(tree, name))
        for name in names + names:
            self.assertEqual(outcome(drop, shown, name)[0], outcome(drop, tree, name)[0])
            if get(tree, name) is not None:
                shown, tree = drop(shown, name), drop(tree, name)
            else:
                new = leaf(name, (3, 4), (5,))
                shown, tree = put(shown, new), put(tree, new)
            self.assertEqual(root_of(SEALER, shown), root_of(SEALER, tree))
        for name in names:
            new = leaf(name, (8, 8))
            self.assertEqual(root_of(SEALER, put(shown, new)), root_of(SEALER, put(tree, new)))


class PruneForTest(unittest.TestCase):
    """Point 38."""

    def test_small_trees(self):
        cases = [
            (("count",), cut(WHOLE)),
            (("total",), cut(WHOLE)),
            (("leaf", "a"), cut(WHOLE)),
            (("leaf", "b"), ("branch", ("branch", B, cut(D)), cut(RIGHT))),
            (("leaf", "c"), ("branch", ("branch", cut(B), cut(D)), cut(RIGHT))),
            (("leaf", "e"), ("branch", cut(LEFT), cut(RIGHT))),
            (("several", ()), cut(WHOLE)),
            (("several", ("a", "z")), cut(WHOLE)),
            (("several", ("h", "c")), ("branch", ("branch", cut(B), cut(D)), ("branch", cut(F), H))),
            (("several", ("f", "h", "b", "d")), WHOLE),
            (("range", "a", "z"), cut(WHOLE)),
            (("range", "h", "b"), cut(WHOLE)),
            (("range", "b", "d"), ("branch", cut(LEFT), cut(RIGHT))),
            (("range", "c", "g"), ("branch", ("branch", cut(B), cut(D)), ("branch", cut(F), cut(H)))),
            (("rank", "b"), cut(WHOLE)),
            (("rank", "i"), cut(WHOLE)),
            (("rank", "c"), ("branch", ("branch", cut(B), cut(D)), cut(RIGHT))),
            (("place", 0), cut(WHOLE)),
            (("place", 3), cut(WHOLE)),
            (("place", 4), cut(WHOLE)),
            (("place", 1), ("branch", cut(LEFT), cut(RIGHT))),
            (("next", "a"), cut(WHOLE)),
            (("next", "h"), cut(WHOLE)),
            (("next", "b"), ("branch", ("branch", cut(B), cut(D)), cut(RIGHT))),
            (("next", "d"), ("branch", cut(LEFT), cut(RIGHT))),
        ]
        for question, expected in cases:
            self.assertEqual(prune_for(SEALER, WHOLE, question), expected, question)

    def test_deeper_places(self):
        # The left side has a and b in one part, and c; the right side is e.
        tree = letters("abce")
        shown = prune_for(SEALER, tree, ("place", 1))
        self.assertEqual(shown, ("branch", ("branch", cut(letters("ab")), cut(leaf("c", (3,)))), cut(leaf("e", (5,)))))
        self.assertEqual(ask(SEALER, shown, ("place", 1)), "b")

    def test_one_leaf_and_the_empty_tree(self):
        for question in some_questions(["b"]):
            self.assertIsNone(prune_for(SEALER, None, question))
            names = {"leaf": question[1:], "several": question[1:2] and question[1]}.get(question[0], ())
            self.assertEqual(prune_for(SEALER, B, question), B if "b" in names else cut(B), question)

    def test_many_trees(self):
        for seed, tree in enumerate(some_trees(7, 60, 7)):
            names = [one[1] for one in leaves_of(tree)]
            for question in some_questions(some_names(names, seed)[:9]):
                shown = prune_for(SEALER, tree, question)
                self.assertEqual(answer(SEALER, root_of(SEALER, tree), shown, question), ask(SEALER, tree, question))
                for place, part in enumerate(parts_of(shown)):
                    if part[0] != "cut":
                        further = with_cut_at(shown, place)
                        self.assertEqual(outcome(ask, SEALER, further, question)[0], "NotShown", (shown, question))

    def test_trees_with_cuts(self):
        random = Random(8)
        for seed, whole in enumerate(some_trees(9, 60, 7)):
            tree, _ = random_cuts(random, whole)
            names = [one[1] for one in leaves_of(whole)]
            for question in some_questions(some_names(names, seed)[:9]):
                told = outcome(ask, SEALER, tree, question)
                if told[0] == "NotShown":
                    self.assertEqual(outcome(prune_for, SEALER, tree, question), told)
                else:
                    # What a question needs is the same in the tree and in the whole one.
                    self.assertEqual(prune_for(SEALER, tree, question), prune_for(SEALER, whole, question))

    def test_several_raises_in_the_order_of_the_names(self):
        tree = ("branch", cut(LEFT), cut(RIGHT))
        self.assertEqual(outcome(prune_for, SEALER, tree, ("several", ("f", "b"))), ("NotShown", {"name": "f"}))
        self.assertEqual(outcome(prune_for, SEALER, tree, ("several", ("e", "c", "f"))), ("NotShown", {"name": "b"}))


class OpenCountTest(unittest.TestCase):
    def test_open_count(self):
        self.assertEqual(open_count(None), 0)
        self.assertEqual(open_count(cut(WHOLE)), 0)
        self.assertEqual(open_count(B), 1)
        self.assertEqual(open_count(("branch", cut(LEFT), cut(RIGHT))), 1)
        self.assertEqual(open_count(WHOLE), 7)
        self.assertEqual(open_count(("branch", LEFT, cut(RIGHT))), 4)
        self.assertEqual(open_count(("branch", cut(LEFT), RIGHT)), 4)


if __name__ == "__main__":
    unittest.main()
