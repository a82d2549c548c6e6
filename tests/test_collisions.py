import unittest

from sumgrove.checking import answer
from sumgrove.collisions import find_collision, search_collision
from sumgrove.pruning import join_trees, prune, prune_for
from sumgrove.questions import ask
from sumgrove.seals import Sealer, is_collision
from sumgrove.trees import leaves_of, root_of, row_of, summary_of, top_row
from tests.helper import PRIME, SEALER, cut, leaf, letters, outcome, parts_of, some_trees, with_cut_at
from tests.test_questions import some_questions

SMALL = Sealer(101)


def noted(name, note):
    return leaf(name, (1,), (note,))


def first_of(trees, holds):
    return next(tree for tree in trees if holds(tree))


def pair_of_leaves(name):
    """Two leaves that differ in the note alone and have the same seal by 101."""
    first = noted(name, 0)
    second = first_of([noted(name, note) for note in range(1, 102)],
                      lambda tree: summary_of(SMALL, tree) == summary_of(SMALL, first))
    return first, second


def pair_of_tops():
    """Two leaves with different seals and the same root by 101."""
    for note in range(101):
        first = noted("a", note)
        for other in range(note + 1, 101):
            second = noted("a", other)
            same_root = root_of(SMALL, first) == root_of(SMALL, second)
            if same_root and summary_of(SMALL, first) != summary_of(SMALL, second):
                return first, second
    raise AssertionError("there are such leaves")


def pair_of_branches():
    """Two branches with different rows and the same summary by 101; both of their leaves are different, too."""
    first = ("branch", noted("a", 0), noted("b", 0))
    trees = [("branch", noted("a", one), noted("b", other)) for one in range(1, 60) for other in range(1, 60)]
    second = first_of(trees, lambda tree: summary_of(SMALL, tree) == summary_of(SMALL, first)
                      and row_of(SMALL, tree) != row_of(SMALL, first))
    return first, second


class FindTest(unittest.TestCase):
    """Points 50 and 51."""

    def check(self, first, second, rows):
        self.assertEqual(find_collision(SMALL, first, second), rows)
        self.assertEqual(find_collision(SMALL, second, first), rows and rows[::-1])
        if rows is not None:
            self.assertTrue(is_collision(SMALL, *rows))
            self.assertEqual(outcome(join_trees, SMALL, first, second),
                             ("Unlike", {"first": rows[0], "second": rows[1]}))

    def test_different_roots(self):
        self.check(leaf("a"), leaf("b"), None)
        self.check(None, leaf("b"), None)
        self.assertIsNone(find_collision(SEALER, letters("bdf"), letters("bdg")))

    def test_equal_trees(self):
        for tree in (None, leaf("a"), letters("bdfh"), cut(letters("bdfh"), SMALL)):
            self.check(tree, tree, None)

    def test_different_top_rows(self):
        first, second = pair_of_tops()
        self.assertEqual(root_of(SMALL, first), root_of(SMALL, second))
        self.assertNotEqual(top_row(SMALL, first), top_row(SMALL, second))
        self.check(first, second, (top_row(SMALL, first), top_row(SMALL, second)))
        self.check(cut(first, SMALL), cut(second, SMALL), (top_row(SMALL, first), top_row(SMALL, second)))

    def test_top_rows_before_the_rows_of_parts(self):
        # Different names and worths: everything is different but the root.
        first = leaf("a", (5,))
        second = first_of([leaf("b", (worth,)) for worth in range(1000)],
                          lambda tree: root_of(SMALL, tree) == root_of(SMALL, first))
        self.check(first, second, (top_row(SMALL, first), top_row(SMALL, second)))

    def test_empty_tree_and_another_one(self):
        tree = first_of([leaf("b", (worth,)) for worth in range(1000)],
                        lambda tree: root_of(SMALL, tree) == root_of(SMALL, None))
        self.check(None, tree, ((2,), top_row(SMALL, tree)))

    def test_unlike_leaves(self):
        first, second = pair_of_leaves("a")
        self.check(first, second, (row_of(SMALL, first), row_of(SMALL, second)))

    def test_first_pair_in_preorder(self):
        one, other = pair_of_leaves("b")
        two, another = pair_of_leaves("f")
        rows = [row_of(SMALL, part) for part in (one, other, two, another)]
        self.check(("branch", one, two), ("branch", other, another), (rows[0], rows[1]))
        self.check(("branch", one, another), ("branch", other, two), (rows[0], rows[1]))
        self.check(("branch", one, two), ("branch", one, another), (rows[2], rows[3]))
        self.check(("branch", ("branch", leaf("0"), one), two), ("branch", ("branch", leaf("0"), other), another),
                   (rows[0], rows[1]))

    def test_rows_of_a_branch_before_those_below(self):
        first, second = pair_of_branches()
        self.assertEqual(top_row(SMALL, first), top_row(SMALL, second))
        self.assertNotEqual(row_of(SMALL, first[1]), row_of(SMALL, second[1]))
        rows = (row_of(SMALL, first), row_of(SMALL, second))
        self.check(first, second, rows)
        self.check(("branch", first, leaf("e")), ("branch", second, leaf("e")), rows)
        later, last = pair_of_leaves("e")
        self.check(("branch", first, later), ("branch", second, last), rows)

    def test_cut_in_between(self):
        first, second = pair_of_leaves("a")
        rest = leaf("b")
        self.check(cut(first, SMALL), second, None)
        self.check(("branch", cut(first, SMALL), rest), ("branch", second, rest), None)
        self.check(("branch", cut(first, SMALL), rest), ("branch", cut(second, SMALL), rest), None)
        self.check(cut(("branch", first, rest), SMALL), ("branch", second, rest), None)

    def test_cut_before_the_first_pair(self):
        one, other = pair_of_leaves("b")
        two, another = pair_of_leaves("f")
        self.check(("branch", cut(one, SMALL), two), ("branch", other, another),
                   (row_of(SMALL, two), row_of(SMALL, another)))

    def test_leaf_and_branch_at_one_place(self):
        # A leaf and a branch never have the same summary: their counts are 1 and more.
        self.check(leaf("b"), ("branch", leaf("a"), leaf("b")), None)


class SearchTest(unittest.TestCase):
    """The search for a collision among rows (point 13)."""

    def test_search_as_told(self):
        sealer = Sealer(7)
        for rows in [[(n * n % 11, n) for n in range(many)] for many in range(12)]:
            expected = None
            for second in range(len(rows)):
                for first in range(second):
                    if expected is None and is_collision(sealer, rows[first], rows[second]):
                        expected = (rows[first], rows[second])
            self.assertEqual(search_collision(sealer, rows), expected)

    def test_several_collisions(self):
        # By 3 a number of a row makes no difference: all rows of one length collide.
        sealer = Sealer(3)
        one, other = (4, 4), (5, 5)
        self.assertEqual(sealer.seal(one), sealer.seal(other))
        self.assertEqual(search_collision(sealer, [one, other, (0,), (1,), (6, 6)]), (one, other))
        # The least second row counts before the least first row.
        big = Sealer(101)
        rows = [(0,), (1,), (102,), (101,)]
        self.assertEqual(search_collision(big, rows), ((1,), (102,)))
        # Of several first rows the earliest counts; equal rows are no collision.
        self.assertEqual(search_collision(big, [(1,), (1,), (0,), (102,), (203,)]), ((1,), (102,)))

    def test_no_collision(self):
        self.assertIsNone(search_collision(Sealer(101), []))
        self.assertIsNone(search_collision(Sealer(101), [(1,)]))
        self.assertIsNone(search_collision(Sealer(PRIME), [(1,), (1,), (2,), (1,)]))

    def test_rows_stay(self):
        rows = [(1,), (102,)]
        search_collision(Sealer(101), rows)
        self.assertEqual(rows, [(1,), (102,)])


class JoinTest(unittest.TestCase):
    """Point 39."""

    def test_joined_is_open_where_one_is(self):
        tree = letters("bdfh")
        first, second = prune(SEALER, tree, ["b"]), prune(SEALER, tree, ["h"])
        expected = prune(SEALER, tree, ["b", "h"])
        self.assertEqual(join_trees(SEALER, first, second), expected)
        self.assertEqual(join_trees(SEALER, second, first), expected)

    def test_many_trees(self):
        for tree in some_trees(21, 20, 7):
            places = range(len(parts_of(tree)))
            for first in places:
                for second in places:
                    one, other = with_cut_at(tree, first), with_cut_at(tree, second)
                    joined = join_trees(SEALER, one, other)
                    self.assertEqual(joined, join_trees(SEALER, other, one))
                    open_parts = [part for part in parts_of(one) + parts_of(other) if part[0] == "leaf"]
                    self.assertEqual(leaves_of(joined), sorted(set(open_parts)))
                    self.assertEqual(root_of(SEALER, joined), root_of(SEALER, tree))
                self.assertEqual(join_trees(SEALER, with_cut_at(tree, first), tree), tree)

    def test_with_itself(self):
        tree = letters("bdfh")
        for one in (None, leaf("a"), tree, cut(tree), prune(SEALER, tree, ["c", "h"])):
            self.assertEqual(join_trees(SEALER, one, one), one)

    def test_cuts_alone(self):
        one = ("branch", cut(leaf("a")), cut(leaf("b")))
        self.assertEqual(join_trees(SEALER, one, one), one)
        self.assertEqual(join_trees(SEALER, cut(one), one), one)

    def test_another_root(self):
        first, second = letters("bdfh"), letters("bdf")
        self.assertEqual(outcome(join_trees, SEALER, first, second), ("WrongRoot", {"root": root_of(SEALER, second)}))
        self.assertEqual(outcome(join_trees, SEALER, second, first), ("WrongRoot", {"root": root_of(SEALER, first)}))
        self.assertEqual(outcome(join_trees, SEALER, None, first), ("WrongRoot", {"root": root_of(SEALER, first)}))

    def test_unlike(self):
        first, second = pair_of_leaves("b")
        self.assertEqual(outcome(join_trees, SMALL, ("branch", leaf("a"), first), ("branch", leaf("a"), second)),
                         ("Unlike", {"first": row_of(SMALL, first), "second": row_of(SMALL, second)}))
        hidden = cut(second, SMALL)
        self.assertEqual(join_trees(SMALL, ("branch", leaf("a"), first), ("branch", leaf("a"), hidden)),
                         ("branch", leaf("a"), first))


class CheckerTest(unittest.TestCase):
    """Point 40, and the third item of point 3."""

    def test_right_root(self):
        tree = letters("bdfh")
        root = root_of(SEALER, tree)
        for question in some_questions(list("abcdefghi")):
            expected = ask(SEALER, tree, question)
            self.assertEqual(answer(SEALER, root, tree, question), expected)
            self.assertEqual(answer(SEALER, root, prune_for(SEALER, tree, question), question), expected)
        self.assertEqual(answer(SEALER, root_of(SEALER, None), None, ("count",)), 0)

    def test_order_of_the_errors(self):
        tree = cut(letters("bdfh"))
        root = root_of(SEALER, tree)
        bad = ("branch", tree, tree)
        question = ("leaf", "c")
        self.assertEqual(outcome(answer, SEALER, root, bad, question), ("InvalidTree", {}))
        self.assertEqual(outcome(answer, SEALER, root, ("branch", None, tree), question), ("InvalidTree", {}))
        self.assertEqual(outcome(answer, SEALER, root + 1, bad, question), ("InvalidTree", {}))
        self.assertEqual(outcome(answer, SEALER, root + 1, tree, question), ("WrongRoot", {"root": root}))
        self.assertEqual(outcome(answer, SEALER, root + 1, tree, ("count",)), ("WrongRoot", {"root": root}))
        self.assertEqual(outcome(answer, SEALER, root, None, question), ("WrongRoot", {"root": root_of(SEALER, None)}))
        self.assertEqual(outcome(answer, SEALER, root, tree, question), ("NotShown", {"name": "b"}))
        self.assertEqual(outcome(answer, SEALER, root, tree, ("count",)), ("returned", 4))

    def test_two_answers_give_a_collision(self):
        small = Sealer(7)
        worths = [(one, other) for one in range(4) for other in range(4)]
        trees = [("branch", leaf("b", (one,)), leaf("d", (other,))) for one, other in worths]
        trees += [leaf("c", (one,), (other,)) for one, other in worths]
        trees += [cut(tree, small) for tree in trees] + [prune(small, tree, ["b"]) for tree in trees]
        questions = [("leaf", "b"), ("leaf", "c"), ("total",), ("range", "c", "d"), ("next", "b"), ("place", 0)]
        differing = 0
        for first in trees:
            root = root_of(small, first)
            for second in trees:
                if root_of(small, second) != root or first == second:
                    continue
                found = find_collision(small, first, second)
                for question in questions:
                    told = [outcome(answer, small, root, tree, question) for tree in (first, second)]
                    if told[0] != told[1] and "NotShown" not in (told[0][0], told[1][0]):
                        differing += 1
                        self.assertTrue(is_collision(small, *found))
                        self.assertEqual(outcome(join_trees, small, first, second),
                                         ("Unlike", {"first": found[0], "second": found[1]}))
        self.assertGreater(differing, 100)


if __name__ == "__main__":
    unittest.main()
