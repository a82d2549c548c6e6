import unittest
from random import Random

from sumgrove.errors import NotShown
from sumgrove.questions import ask
from sumgrove.trees import build, leaves_of, summary_of
from tests.helper import SEALER, cut, leaf, letters, outcome, random_cuts, some_names, some_trees, told_cut

WHOLE = letters("bdfh")
LEFT, RIGHT = WHOLE[1], WHOLE[2]
B, D, F, H = leaves_of(WHOLE)


def some_questions(names):
    """Questions of each kind about these names."""
    questions = [("count",), ("total",), ("several", ()), ("several", tuple(reversed(names)))]
    questions += [(word, name) for word in ("leaf", "rank", "next") for name in names]
    questions += [("range", low, high) for low in names for high in names]
    questions += [("several", (names[0], name)) for name in names]
    return questions + [("place", place) for place in range(len(names) + 2)]


def right_answer(leaves, question):
    """The answer of point 36, from a list of leaves in order."""
    word, items = question[0], question[1:]
    names = [one[1] for one in leaves]
    if word == "leaf":
        return next((one[2:] for one in leaves if one[1] == items[0]), None)
    if word == "several":
        return tuple(right_answer(leaves, ("leaf", name)) for name in items[0])
    if word == "count":
        return len(leaves)
    if word == "total":
        return right_answer(leaves, ("range", "", "~"))[1]
    if word == "range":
        worths = [one[2] for one in leaves if items[0] <= one[1] <= items[1]]
        return (len(worths), tuple(sum(kind) for kind in zip(*worths)) if worths else None)
    if word == "rank":
        return len([name for name in names if name < items[0]])
    if word == "place":
        return names[items[0]] if items[0] < len(names) else None
    return min((name for name in names if name > items[0]), default=None)


class AnswersTest(unittest.TestCase):
    """Point 36."""

    def check(self, tree, question, expected):
        self.assertEqual(ask(SEALER, tree, question), expected, question)

    def test_empty_tree(self):
        for question, expected in [
            (("leaf", "a"), None), (("several", ("a", "b")), (None, None)), (("several", ()), ()), (("count",), 0),
            (("total",), None), (("range", "a", "b"), (0, None)), (("range", "b", "a"), (0, None)), (("rank", "a"), 0),
            (("place", 0), None), (("place", 5), None), (("next", "a"), None),
        ]:
            self.check(None, question, expected)

    def test_one_leaf(self):
        tree = leaf("k", (3, 4), (5,))
        for question, expected in [
            (("leaf", "k"), ((3, 4), (5,))), (("leaf", "a"), None), (("leaf", "z"), None),
            (("several", ("a", "k")), (None, ((3, 4), (5,)))), (("count",), 1), (("total",), (3, 4)),
            (("range", "k", "k"), (1, (3, 4))), (("range", "a", "z"), (1, (3, 4))), (("range", "a", "j"), (0, None)),
            (("range", "l", "z"), (0, None)), (("range", "z", "a"), (0, None)), (("rank", "a"), 0), (("rank", "k"), 0),
            (("rank", "k0"), 1), (("place", 0), "k"), (("place", 1), None), (("next", "a"), "k"), (("next", "k"), None),
        ]:
            self.check(tree, question, expected)

    def test_more_leaves(self):
        tree = build([leaf(name, (worth, 1), (worth,)) for name, worth in zip("bdfh", (1, 10, 100, 1000))])
        for question, expected in [
            (("leaf", "d"), ((10, 1), (10,))), (("leaf", "e"), None), (("leaf", "c"), None), (("count",), 4),
            (("several", ("h", "c", "h")), (((1000, 1), (1000,)), None, ((1000, 1), (1000,)))),
            (("total",), (1111, 4)), (("range", "b", "f"), (3, (111, 3))), (("range", "c", "g"), (2, (110, 2))),
            (("range", "e", "e"), (0, None)), (("range", "h", "b"), (0, None)), (("range", "f", "z"), (2, (1100, 2))),
            (("rank", "a"), 0), (("rank", "d"), 1), (("rank", "e"), 2), (("rank", "z"), 4),
            (("place", 0), "b"), (("place", 1), "d"), (("place", 2), "f"), (("place", 3), "h"), (("place", 4), None),
            (("next", "0"), "b"), (("next", "b"), "d"), (("next", "c"), "d"), (("next", "d"), "f"),
            (("next", "e"), "f"), (("next", "h"), None), (("next", "z"), None),
        ]:
            self.check(tree, question, expected)

    def test_a_place_below_the_first_one(self):
        for tree in (None, B, WHOLE, cut(WHOLE)):
            self.check(tree, ("place", -1), None)

    def test_many_trees(self):
        for seed, tree in enumerate(some_trees(11, 100)):
            leaves = leaves_of(tree)
            for question in some_questions(some_names([one[1] for one in leaves], seed)[:12]):
                self.check(tree, question, right_answer(leaves, question))


class NotShownTest(unittest.TestCase):
    """Point 37: what is needed of cuts, and which cut is named."""

    def check(self, tree, hidden, shown):
        for question, name in hidden:
            self.assertEqual(outcome(ask, SEALER, tree, question), ("NotShown", {"name": name}), question)
        for question in shown:
            expected = right_answer([B, D, F, H], question)
            self.assertEqual(ask(SEALER, tree, question), expected, question)

    def test_whole_tree_as_one_cut(self):
        hidden = [("leaf", "b"), ("leaf", "e"), ("leaf", "h"), ("range", "b", "f"), ("range", "c", "h"),
                  ("range", "e", "e"), ("range", "a", "b"), ("range", "h", "z"), ("rank", "b0"), ("rank", "h"),
                  ("place", 1), ("place", 2), ("next", "b"), ("next", "g"), ("several", ("a", "c"))]
        shown = [("count",), ("total",), ("leaf", "azz"), ("leaf", "h0"), ("range", "b", "h"), ("range", "a", "z"),
                 ("range", "h", "b"), ("range", "g", "f"), ("range", "0", "a"), ("range", "h0", "z"), ("rank", "a"),
                 ("rank", "b"), ("rank", "h0"), ("place", 0), ("place", 3), ("place", 4), ("place", 9), ("next", "a"),
                 ("next", "h"), ("next", "z"), ("several", ()), ("several", ("a", "i"))]
        self.check(cut(WHOLE), [(question, "b") for question in hidden], shown)

    def test_left_side_cut(self):
        hidden = [("leaf", "b"), ("leaf", "c"), ("leaf", "d"), ("range", "a", "c"), ("range", "c", "z"),
                  ("range", "b", "b"), ("range", "d", "f"), ("rank", "c"), ("rank", "d"), ("next", "b"), ("next", "c")]
        shown = [("count",), ("total",), ("leaf", "a"), ("leaf", "e"), ("leaf", "f"), ("leaf", "g"),
                 ("range", "b", "d"), ("range", "a", "g"), ("range", "e", "f"), ("range", "d0", "f"),
                 ("range", "d", "c"), ("rank", "b"), ("rank", "d0"), ("rank", "f"), ("rank", "g"), ("place", 0),
                 ("place", 1), ("place", 2), ("place", 3), ("next", "a"), ("next", "d"), ("next", "e"), ("next", "f")]
        self.check(("branch", cut(LEFT), RIGHT), [(question, "b") for question in hidden], shown)

    def test_right_side_cut(self):
        hidden = [("leaf", "f"), ("leaf", "h"), ("range", "a", "f"), ("range", "g", "z"), ("rank", "g"), ("rank", "h"),
                  ("next", "f"), ("next", "g")]
        shown = [("leaf", "b"), ("leaf", "c"), ("leaf", "e"), ("range", "a", "d"), ("range", "c", "h"), ("rank", "d"),
                 ("rank", "e"), ("rank", "f"), ("rank", "i"), ("place", 1), ("place", 2), ("next", "b"), ("next", "d"),
                 ("next", "e")]
        self.check(("branch", LEFT, cut(RIGHT)), [(question, "f") for question in hidden], shown)

    def test_cut_of_one_leaf(self):
        tree = ("branch", ("branch", B, cut(D)), RIGHT)
        shown = [("leaf", "c"), ("leaf", "d0"), ("range", "b", "d"), ("range", "c", "f"), ("rank", "d"), ("rank", "d0"),
                 ("place", 1), ("next", "b"), ("next", "d")]
        self.check(tree, [(("leaf", "d"), "d"), (("several", ("b", "d")), "d")], shown)

    def test_middle_places(self):
        tree = letters("abcdefgh")
        left, right = letters("abcd"), letters("efgh")
        self.assertEqual(tree, ("branch", left, right))
        self.check_place(tree, {})
        self.check_place(("branch", cut(left), right), {1: "a", 2: "a"})
        self.check_place(("branch", left, cut(right)), {5: "e", 6: "e"})
        self.check_place(cut(tree), {place: "a" for place in range(1, 7)})

    def check_place(self, tree, hidden):
        for place in range(10):
            if place in hidden:
                expected = ("NotShown", {"name": hidden[place]})
            else:
                expected = ("returned", "abcdefgh"[place] if place < 8 else None)
            self.assertEqual(outcome(ask, SEALER, tree, ("place", place)), expected)

    def test_left_before_right(self):
        tree = ("branch", cut(LEFT), cut(RIGHT))
        self.check(tree, [
            (("range", "c", "g"), "b"), (("range", "b", "g"), "f"), (("range", "c", "h"), "b"), (("rank", "c"), "b"),
            (("rank", "g"), "f"), (("next", "c"), "b"), (("next", "g"), "f"), (("leaf", "d"), "b"),
            (("leaf", "h"), "f"),
        ], [("leaf", "e"), ("rank", "e"), ("rank", "f"), ("next", "d"), ("place", 2), ("range", "b", "h")])

    def test_order_of_several(self):
        tree = ("branch", cut(LEFT), cut(RIGHT))
        self.check(tree, [
            (("several", ("f", "b")), "f"), (("several", ("b", "f")), "b"), (("several", ("e", "h", "b")), "f"),
        ], [("several", ("a", "e", "i"))])

    def test_summaries_are_believed(self):
        # What a cut tells counts, whatever could stand behind it.
        tree = ("branch", told_cut(count=50, sums=(7,), least="b", greatest="d"), leaf("f", (3,)))
        self.assertEqual(ask(SEALER, tree, ("count",)), 51)
        self.assertEqual(ask(SEALER, tree, ("total",)), (10,))
        self.assertEqual(ask(SEALER, tree, ("rank", "f")), 50)
        self.assertEqual(ask(SEALER, tree, ("range", "a", "e")), (50, (7,)))
        self.assertEqual(ask(SEALER, tree, ("place", 49)), "d")
        self.assertEqual(ask(SEALER, tree, ("place", 50)), "f")
        self.assertEqual(outcome(ask, SEALER, tree, ("place", 48)), ("NotShown", {"name": "b"}))

    def test_many_trees_with_cuts(self):
        random = Random(12)
        for seed, whole in enumerate(some_trees(12, 100)):
            tree, _ = random_cuts(random, whole)
            leaves = leaves_of(whole)
            for question in some_questions(some_names([one[1] for one in leaves], seed)[:10]):
                result = outcome(ask, SEALER, tree, question)
                if result[0] == "returned":
                    self.assertEqual(result[1], right_answer(leaves, question))
                else:
                    self.assertEqual(result, outcome(reference, tree, question))


def reference(tree, question):
    """Point 37, word for word, for questions that are known to need a cut."""
    if question[0] == "several":
        for name in question[1]:
            reference(tree, ("leaf", name))
        return None
    _, count, _, least, greatest = summary_of(SEALER, tree)
    word, items = question[0], question[1:]
    left_alone = {
        "leaf": lambda name: name < least or name > greatest,
        "range": lambda low, high: low > high or high < least or low > greatest or low <= least and greatest <= high,
        "rank": lambda name: name <= least or name > greatest,
        "place": lambda n: n in (0, count - 1) or n >= count,
        "next": lambda name: name < least or name >= greatest,
    }
    if left_alone[word](*items) or tree[0] == "leaf":
        return None
    if tree[0] == "cut":
        raise NotShown(least)
    for side in tree[1:]:
        _, count, _, least, greatest = summary_of(SEALER, side)
        if word == "place" and items[0] >= count:
            items = (items[0] - count,)
        elif word == "leaf" and not least <= items[0] <= greatest or word == "next" and items[0] >= greatest:
            continue
        else:
            reference(side, (word, *items))
            if word in ("place", "next"):
                return None
    return None


if __name__ == "__main__":
    unittest.main()
