import unittest
from random import Random

from sumgrove.changes import Uneven, change_paper, check_change
from sumgrove.collisions import find_collision
from sumgrove.errors import GroveError
from sumgrove.seals import Sealer, is_collision
from sumgrove.trees import build, drop, leaves_of, put, root_of, row_of, summary_of
from tests.helper import (
    SEALER, cut, leaf, letters, outcome, parts_of, random_cuts, random_name, random_tree, told_cut, with_cut_at,
)


def cut_where_equal(tree, others, sealer=SEALER):
    """Point 155, once more: the parts of one tree are looked for among those of the other one."""
    if tree is None:
        return None
    if tree in others:
        return cut(tree, sealer)
    if tree[0] == "branch":
        return ("branch", cut_where_equal(tree[1], others, sealer), cut_where_equal(tree[2], others, sealer))
    return tree


def expected_paper(first, second):
    return (cut_where_equal(first, parts_of(second)), cut_where_equal(second, parts_of(first)))


def changes(first, second):
    """Point 157 for two whole trees."""
    before = {one[1]: one for one in leaves_of(first)}
    after = {one[1]: one for one in leaves_of(second)}
    names = sorted({*before, *after})
    return [(name, before.get(name), after.get(name)) for name in names if before.get(name) != after.get(name)]


def changed_tree(random, tree):
    """The tree with some leaves changed, dropped and put."""
    for _ in range(random.randrange(4)):
        names = [one[1] for one in leaves_of(tree)]
        if names and random.random() < 0.6:
            name = random.choice(names)
            tree = drop(tree, name) if random.random() < 0.4 else put(tree, leaf(name, (random.randrange(9), 1), (7,)))
        else:
            tree = put(tree, leaf(random_name(random), (random.randrange(9), 2), (8,)))
    return tree


def some_pairs(seed, many):
    """Pairs of whole trees that share much, something or nothing."""
    random = Random(seed)
    for _ in range(many):
        tree = random_tree(random)
        yield random, tree, (changed_tree(random, tree) if random.random() < 0.8 else random_tree(random))


class PaperTest(unittest.TestCase):
    """Point 155."""

    def check(self, first, second, paper):
        self.assertEqual(change_paper(SEALER, first, second), paper)
        self.assertEqual(change_paper(SEALER, second, first), paper[::-1])
        self.assertEqual(paper, expected_paper(first, second))

    def test_equal_trees(self):
        for tree in (leaf("b"), letters("bd"), letters("bdfhk")):
            self.check(tree, tree, (cut(tree), cut(tree)))
        hidden = cut(letters("bd"))
        self.check(hidden, hidden, (hidden, hidden))
        self.check(None, None, (None, None))

    def test_empty_and_another_tree(self):
        for tree in (leaf("b"), letters("bd"), letters("bdfhk"), cut(letters("bd"))):
            self.check(None, tree, (None, tree))

    def test_trees_that_share_nothing(self):
        first, second = letters("bdfh"), build([leaf(name, (50,)) for name in "bdfhz"])
        self.check(first, second, (first, second))
        self.check(leaf("b"), leaf("c"), (leaf("b"), leaf("c")))
        self.check(leaf("b"), leaf("b", (2,)), (leaf("b"), leaf("b", (2,))))
        self.check(leaf("b"), leaf("b", (1,), (0,)), (leaf("b"), leaf("b", (1,), (0,))))

    def test_a_shared_leaf(self):
        first = letters("bd")
        second = put(first, leaf("b", (9,)))
        d = cut(leaf("d", (4,)))
        self.check(first, second, (("branch", leaf("b", (2,)), d), ("branch", leaf("b", (9,)), d)))

    def test_a_shared_branch(self):
        first = letters("bdhi")
        _, left, right = first
        self.assertEqual((left[0], right[0]), ("branch", "branch"))
        second = put(first, leaf("i", (1,)))
        self.assertEqual(second[1], left)
        self.check(first, second, (("branch", cut(left), ("branch", cut(right[1]), right[2])),
                                   ("branch", cut(left), ("branch", cut(right[1]), leaf("i", (1,))))))

    def test_a_part_at_another_place(self):
        part = letters("bd")
        whole = letters("bdhi")
        self.assertEqual(whole[1], part)
        self.check(part, whole, (cut(part), ("branch", cut(part), whole[2])))
        self.check(leaf("b", (2,)), whole, (cut(leaf("b", (2,))),
                                            ("branch", ("branch", cut(leaf("b", (2,))), leaf("d", (4,))), whole[2])))

    def test_trees_with_cuts(self):
        tree = letters("bdhi")
        _, left, right = tree
        hidden = ("branch", cut(left), right)
        # A cut is another part than what it stands for.
        self.check(tree, hidden, (("branch", left, cut(right)), ("branch", cut(left), cut(right))))
        self.check(hidden, hidden, (cut(tree), cut(tree)))
        other = ("branch", cut(left), put(right, leaf("i", (1,))))
        shown = ("branch", cut(left), ("branch", cut(right[1]), right[2]))
        self.check(hidden, other, (shown, ("branch", cut(left), ("branch", cut(right[1]), leaf("i", (1,))))))
        alone = ("branch", told_cut(count=1, least="b", greatest="b"), leaf("i"))
        self.check(alone, leaf("i"), (("branch", told_cut(count=1, least="b", greatest="b"), cut(leaf("i"))),
                                      cut(leaf("i"))))

    def test_only_the_largest_equal_parts_are_cut(self):
        shared = 0
        for _, first, second in some_pairs(31, 200):
            paper = change_paper(SEALER, first, second)
            for tree, shown, other in ((first, paper[0], second), (second, paper[1], first)):
                cuts = [part for part in parts_of(shown) if part[0] == "cut"]
                equal = [part for part in parts_of(tree) if part in parts_of(other)]
                covered = [part for large in equal for part in parts_of(large)[1:]]
                largest = [part for part in equal if part not in covered]
                self.assertEqual(cuts, [cut(part) for part in largest])
                shared += len([part for part in largest if part[0] == "branch"])
        self.assertGreater(shared, 100)

    def test_many_trees(self):
        for random, first, second in some_pairs(32, 200):
            self.check(first, second, expected_paper(first, second))
            one, other = random_cuts(random, first)[0], random_cuts(random, second)[0]
            self.check(one, other, expected_paper(one, other))
            self.check(first, one, expected_paper(first, one))

    def test_many_leaves(self):
        first = build([leaf(f"n{number}", (number,), (5,)) for number in range(600)])
        second = put(drop(first, "n77"), leaf("n500", (1,), (6,)))
        paper = change_paper(SEALER, first, second)
        told = check_change(SEALER, root_of(SEALER, first), root_of(SEALER, second), paper)
        self.assertEqual(told, [("n500", leaf("n500", (500,), (5,)), leaf("n500", (1,), (6,))),
                                ("n77", leaf("n77", (77,), (5,)), None)])


class CheckTest(unittest.TestCase):
    """Points 156 and 157."""

    def outcome(self, paper, roots=None):
        first_root, second_root = roots or [root_of(SEALER, tree) for tree in paper]
        return outcome(check_change, SEALER, first_root, second_root, paper)

    def check(self, paper, told, roots=None):
        self.assertEqual(self.outcome(paper, roots), ("returned", told))

    def test_true_papers(self):
        many = 0
        for _, first, second in some_pairs(33, 300):
            roots = (root_of(SEALER, first), root_of(SEALER, second))
            self.check(change_paper(SEALER, first, second), changes(first, second), roots)
            self.check(change_paper(SEALER, second, first), changes(second, first), roots[::-1])
            many += len(changes(first, second)) > 1
        self.assertGreater(many, 50)

    def test_new_changed_and_dropped(self):
        tree = letters("bdfhk")
        for second, told in (
            (put(tree, leaf("c")), [("c", None, leaf("c"))]),
            (drop(tree, "d"), [("d", leaf("d", (4,)), None)]),
            (put(tree, leaf("d", (9,))), [("d", leaf("d", (4,)), leaf("d", (9,)))]),
            (put(tree, leaf("d", (4,), (1,))), [("d", leaf("d", (4,)), leaf("d", (4,), (1,)))]),
            (put(drop(put(tree, leaf("z")), "b"), leaf("k", (3,))),
             [("b", leaf("b", (2,)), None), ("k", leaf("k", (11,)), leaf("k", (3,))), ("z", None, leaf("z"))]),
            (tree, []),
            (None, [(one[1], one, None) for one in leaves_of(tree)]),
        ):
            roots = (root_of(SEALER, tree), root_of(SEALER, second))
            self.check(change_paper(SEALER, tree, second), told, roots)
            # Papers that show more than they need are accepted, too, and equal leaves are left out.
            self.check((tree, second), told, roots)

    def test_empty_trees(self):
        self.check((None, None), [])
        self.check((None, leaf("b")), [("b", None, leaf("b"))])

    def test_trees_that_are_not_well_formed(self):
        good, other = letters("bd"), letters("bf")
        for bad in (("branch", good[2], good[1]), ("branch", good, None), leaf("B"), told_cut(count=0),
                    ("branch", leaf("b"), leaf("d", (1, 2)))):
            for paper in ((bad, good), (good, bad), (bad, bad), (bad, other)):
                for roots in ((root_of(SEALER, good),) * 2, (0, 0), (0, root_of(SEALER, good))):
                    self.assertEqual(self.outcome(paper, roots), ("InvalidTree", {}))

    def test_roots(self):
        first, second = letters("bd"), letters("bf")
        roots = (root_of(SEALER, first), root_of(SEALER, second))
        self.check((first, second), [("d", leaf("d", (4,)), None), ("f", None, leaf("f", (6,)))], roots)
        for wrong in ((roots[0] + 1, roots[1]), (roots[1], roots[1]), roots[::-1], (0, 0)):
            self.assertEqual(self.outcome((first, second), wrong), ("WrongRoot", {"root": roots[0]}))
        for wrong in ((roots[0], roots[1] + 1), (roots[0], roots[0])):
            self.assertEqual(self.outcome((first, second), wrong), ("WrongRoot", {"root": roots[1]}))
        empty = root_of(SEALER, None)
        self.assertEqual(self.outcome((None, second), roots), ("WrongRoot", {"root": empty}))
        self.assertEqual(self.outcome((first, None), roots), ("WrongRoot", {"root": empty}))

    def test_uneven(self):
        tree = letters("bdfhk")
        other = put(tree, leaf("d", (9,)))
        roots = (root_of(SEALER, tree), root_of(SEALER, other))
        for name in "bdfhk":
            place = [number for number, part in enumerate(parts_of(tree)) if part[:2] == ("leaf", name)][0]
            self.assertEqual(self.outcome((with_cut_at(tree, place), other), roots), ("Uneven", {"name": name}))
            self.assertEqual(self.outcome((tree, with_cut_at(other, place)), roots), ("Uneven", {"name": name}))
            both = (with_cut_at(tree, place), with_cut_at(other, place))
            if name == "d":
                self.assertEqual(self.outcome(both, roots), ("Uneven", {"name": "d"}))
            else:
                self.check(both, changes(tree, other), roots)
        self.assertEqual(self.outcome((cut(tree), other), roots), ("Uneven", {"name": "b"}))
        self.assertEqual(self.outcome((tree, cut(other)), roots), ("Uneven", {"name": "b"}))
        self.assertEqual(self.outcome((tree, with_cut_at(tree, 0)), (roots[0], roots[0])), ("Uneven", {"name": "b"}))

    def test_uneven_order(self):
        def hiding(names):
            tree = letters("bdfhk")
            for name in names:
                place = [number for number, part in enumerate(parts_of(tree)) if part[:2] == ("leaf", name)][0]
                tree = with_cut_at(tree, place)
            return tree

        for first, second, name in (("hd", "", "d"), ("", "kf", "f"), ("k", "b", "k"), ("bk", "b", "k"),
                                    ("b", "bk", "k"), ("bd", "dbhf", "f"), ("bdk", "bdh", "k"), ("fhk", "bd", "f")):
            self.assertEqual(self.outcome((hiding(first), hiding(second))), ("Uneven", {"name": name}))
        for names in ("b", "bdfhk", "hf"):
            self.check((hiding(names), hiding(names)), [])

    def test_roots_before_uneven(self):
        tree = letters("bd")
        for paper, told in (((cut(tree), tree), root_of(SEALER, tree)), ((tree, cut(tree)), root_of(SEALER, tree))):
            self.assertEqual(self.outcome(paper, (1, 1)), ("WrongRoot", {"root": told}))
            self.assertEqual(self.outcome(paper, (told, 1)), ("WrongRoot", {"root": told}))

    def test_papers_of_trees_with_cuts(self):
        uneven, even = 0, 0
        for random, first, second in some_pairs(34, 200):
            one, other = random_cuts(random, first)[0], random_cuts(random, second)[0]
            paper = change_paper(SEALER, one, other)
            found = self.outcome(paper, (root_of(SEALER, first), root_of(SEALER, second)))
            cuts = [[part for part in parts_of(tree) if part[0] == "cut"] for tree in paper]
            names = [part[1][3] for part in cuts[0] if part not in cuts[1]]
            names += [part[1][3] for part in cuts[1] if part not in cuts[0]]
            if names:
                uneven += 1
                self.assertEqual(found, ("Uneven", {"name": names[0]}))
            else:
                even += 1
                self.assertEqual(found, ("returned", changes(*paper)))
        self.assertGreater(min(uneven, even), 30)

    def test_the_paper_stays_as_it_was(self):
        first, second = letters("bdf"), letters("bdh")
        paper = change_paper(SEALER, first, second)
        self.outcome(paper)
        self.assertEqual((first, second), (letters("bdf"), letters("bdh")))
        self.assertEqual(paper, change_paper(SEALER, first, second))
        self.assertIsInstance(paper, tuple)

    def test_error_class(self):
        self.assertEqual(Uneven.__bases__, (GroveError,))
        self.assertEqual(vars(Uneven("a")), {"name": "a"})
        self.assertEqual(vars(Uneven(name="a")), {"name": "a"})


class ToldTest(unittest.TestCase):
    """Point 157: what an accepted paper tells is right, or there is a collision."""

    def collides(self, sealer, wholes, paper):
        for whole, shown in zip(wholes, paper):
            found = find_collision(sealer, whole, shown)
            if found is not None:
                self.assertTrue(is_collision(sealer, *found))
                return True
        rows = [{(summary_of(sealer, part)[0], row_of(sealer, part)) for part in parts_of(whole)} for whole in wholes]
        return any(is_collision(sealer, one, other) for _, one in rows[0] for _, other in rows[1])

    def test_right_or_a_collision(self):
        sealer = Sealer(5)
        trees = [build([leaf(name, (worth,)) for name, worth in zip("bcd", worths) if worth])
                 for worths in [(a, b, c) for a in range(3) for b in range(3) for c in range(3)]]
        by_root = {}
        for tree in trees:
            by_root.setdefault(root_of(sealer, tree), []).append(tree)
        right, wrong = 0, 0
        for first in trees[::2]:
            for second in trees[1::2]:
                paper = change_paper(sealer, first, second)
                roots = (root_of(sealer, first), root_of(sealer, second))
                told = check_change(sealer, *roots, paper)
                self.assertEqual(told, changes(first, second))
                for one in by_root[roots[0]]:
                    for other in by_root[roots[1]]:
                        if told == changes(one, other):
                            right += 1
                        else:
                            wrong += 1
                            self.assertTrue(self.collides(sealer, (one, other), paper))
        self.assertGreater(min(right, wrong), 100)


if __name__ == "__main__":
    unittest.main()
