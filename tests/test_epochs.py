import unittest

from sumgrove.epochs import Chronicle, Shelf, check_growth, epoch_name
from sumgrove.pruning import prune
from sumgrove.refusals import TooManyEpochs
from sumgrove.trees import build, drop, get, is_well_formed, leaves_of, put, root_of
from tests.helper import SEALER, cut, leaf, letters, outcome

TREES = [letters("abcdefghijklmnopqrstuvwxyz"[:many]) for many in range(1, 27)]


def epoch_leaf(number):
    return leaf(f"e{number}", (number + 3,), (number + 100, number + 2000))


def filled(length):
    chronicle = Chronicle(SEALER)
    for number in range(length):
        chronicle.add(number + 100, number + 3, number + 2000)
    return chronicle


def tree_of(length):
    return build([epoch_leaf(number) for number in range(length)])


def no_such(epoch):
    return ("NoSuchEpoch", {"epoch": epoch})


class ChronicleTest(unittest.TestCase):
    """Point 100."""

    def test_names(self):
        for number, name in ((0, "e0"), (9, "e9"), (10, "e10"), (123, "e123"), (999, "e999"), (1000, "e1000")):
            self.assertEqual(epoch_name(number), name)

    def test_empty(self):
        chronicle = Chronicle(SEALER)
        self.assertEqual((chronicle.length(), chronicle.tree(), chronicle.top()), (0, None, root_of(SEALER, None)))
        for epoch in (-1, 0, 1):
            for method in (chronicle.root_of, chronicle.count_of, chronicle.receipts_of):
                self.assertEqual(outcome(method, epoch), no_such(epoch))
            self.assertEqual(outcome(chronicle.show, [epoch]), no_such(epoch))
        self.assertIsNone(chronicle.show([]))
        self.assertIsNone(chronicle.growth(0))

    def test_one_epoch(self):
        chronicle = Chronicle(SEALER)
        self.assertEqual(chronicle.add(7, 8, 9), 0)
        self.assertEqual(chronicle.tree(), ("leaf", "e0", (8,), (7, 9)))
        self.assertEqual((chronicle.length(), chronicle.top()), (1, root_of(SEALER, chronicle.tree())))
        self.assertEqual((chronicle.root_of(0), chronicle.count_of(0), chronicle.receipts_of(0)), (7, 8, 9))

    def test_eleven_epochs(self):
        chronicle = Chronicle(SEALER)
        for number in range(11):
            self.assertEqual(chronicle.add(number + 100, number + 3, number + 2000), number)
            self.assertEqual(chronicle.length(), number + 1)
            self.assertEqual(chronicle.tree(), tree_of(number + 1))
            self.assertEqual(chronicle.top(), root_of(SEALER, tree_of(number + 1)))
        for epoch in range(11):
            self.assertEqual(chronicle.root_of(epoch), epoch + 100)
            self.assertEqual(chronicle.count_of(epoch), epoch + 3)
            self.assertEqual(chronicle.receipts_of(epoch), epoch + 2000)
        for epoch in (-2, -1, 11, 12):
            for method in (chronicle.root_of, chronicle.count_of, chronicle.receipts_of):
                self.assertEqual(outcome(method, epoch), no_such(epoch))

    def test_a_thousand_epochs(self):
        chronicle = filled(1000)
        self.assertEqual(chronicle.length(), 1000)
        self.assertEqual(chronicle.tree(), tree_of(1000))
        self.assertTrue(is_well_formed(SEALER, chronicle.tree()))
        self.assertEqual(chronicle.root_of(999), 1099)
        with self.assertRaises(TooManyEpochs):
            chronicle.add(1, 2, 3)
        self.assertEqual((chronicle.length(), chronicle.tree()), (1000, tree_of(1000)))
        growth = chronicle.growth(990)
        self.assertIs(check_growth(SEALER, filled(990).top(), 990, chronicle.top(), 1000, growth), True)

    def test_show(self):
        chronicle = filled(11)
        for epochs in ([], [0], [10], [3, 10, 1], [4, 4], list(range(11))):
            shown = chronicle.show(epochs)
            self.assertEqual(shown, prune(SEALER, tree_of(11), [f"e{epoch}" for epoch in epochs]))
            self.assertEqual(root_of(SEALER, shown), chronicle.top())
            for epoch in epochs:
                self.assertEqual(get(shown, f"e{epoch}"), epoch_leaf(epoch))

    def test_show_of_epochs_that_there_are_not(self):
        chronicle = filled(11)
        for epochs, first in (([11], 11), ([-1], -1), ([0, 12, 11], 12), ([0, 1, -3, 20], -3), ([10, 1000], 1000)):
            self.assertEqual(outcome(chronicle.show, epochs), no_such(first))

    def test_growth(self):
        chronicle = filled(11)
        for old_length in range(12):
            growth = chronicle.growth(old_length)
            names = [f"e{epoch}" for epoch in range(old_length, 11)]
            self.assertEqual(growth, prune(SEALER, tree_of(11), names))
        self.assertEqual(chronicle.growth(11), cut(tree_of(11)))
        for old_length in (-1, -5, 12, 1000):
            self.assertEqual(outcome(chronicle.growth, old_length), no_such(old_length))

    def test_the_list_stays_as_it_was(self):
        epochs = [3, 1]
        filled(4).show(epochs)
        self.assertEqual(epochs, [3, 1])


class GrowthTest(unittest.TestCase):
    """Point 101."""

    def check(self, expected, old_top, old_length, top, length, tree):
        self.assertIs(check_growth(SEALER, old_top, old_length, top, length, tree), expected)

    def test_each_old_length(self):
        for length in (0, 1, 2, 11, 23):
            chronicle = filled(length)
            for old_length in range(length + 1):
                old_top = filled(old_length).top()
                growth = chronicle.growth(old_length)
                self.check(True, old_top, old_length, chronicle.top(), length, growth)
                self.check(True, old_top, old_length, chronicle.top(), length, chronicle.tree())
                self.check(False, old_top + 1, old_length, chronicle.top(), length, growth)
                self.check(False, old_top, old_length, chronicle.top() + 1, length, growth)
                for wrong in {old_length - 1, old_length + 1}:
                    self.check(False, old_top, wrong, chronicle.top(), length, growth)
                    self.check(False, old_top, wrong, chronicle.top(), length, chronicle.tree())
                for wrong in {length - 1, length + 1}:
                    self.check(False, old_top, old_length, chronicle.top(), wrong, growth)
                    self.check(False, old_top, old_length, chronicle.top(), wrong, chronicle.tree())

    def test_no_growth(self):
        chronicle = filled(11)
        top = chronicle.top()
        self.check(True, top, 11, top, 11, cut(chronicle.tree()))
        self.check(True, top, 11, top, 11, chronicle.tree())
        self.check(False, top + 1, 11, top, 11, chronicle.tree())
        self.check(False, filled(10).top(), 11, top, 11, chronicle.tree())
        # Nothing is dropped then, so the lengths are compared with each other alone.
        self.check(True, top, 5, top, 5, chronicle.tree())

    def test_tops_of_other_trees(self):
        chronicle = filled(11)
        growth = chronicle.growth(5)
        self.check(False, chronicle.top(), 5, chronicle.top(), 11, growth)
        self.check(False, filled(5).top(), 5, filled(5).top(), 11, growth)
        self.check(False, filled(4).top(), 5, chronicle.top(), 11, growth)

    def test_lengths_out_of_bounds(self):
        empty, chronicle = root_of(SEALER, None), filled(11)
        self.check(False, empty, -1, chronicle.top(), 11, chronicle.tree())
        self.check(False, chronicle.top(), 12, chronicle.top(), 11, chronicle.tree())
        self.check(False, chronicle.top(), 11, chronicle.top(), 10, chronicle.tree())
        self.check(False, empty, 1, empty, 0, None)
        self.check(False, empty, -1, empty, -1, None)
        self.check(False, empty, -1, empty, 0, None)
        self.check(True, empty, 0, empty, 0, None)

    def test_more_than_a_thousand(self):
        chronicle = filled(1000)
        tree = put(chronicle.tree(), epoch_leaf(1000))
        top = root_of(SEALER, tree)
        self.check(False, chronicle.top(), 1000, top, 1001, tree)
        self.check(False, top, 1001, top, 1001, tree)
        self.check(True, top, 1000, top, 1000, tree)
        self.check(True, root_of(SEALER, None), 0, chronicle.top(), 1000, chronicle.tree())

    def test_cut_leaves(self):
        chronicle = filled(11)
        for epoch in range(11):
            shown = prune(SEALER, chronicle.tree(), [f"e{other}" for other in range(11) if other != epoch])
            for old_length in range(12):
                self.check(old_length > epoch, filled(old_length).top(), old_length, chronicle.top(), 11, shown)

    def test_leaves_that_are_not_there(self):
        whole = filled(11)
        for epoch in range(11):
            tree = drop(whole.tree(), f"e{epoch}")
            for old_length in range(12):
                old = build([part for part in leaves_of(tree) if int(part[1][1:]) < old_length])
                self.check(old_length > epoch, root_of(SEALER, old), old_length, root_of(SEALER, tree), 11, tree)

    def test_trees_that_are_not_well_formed(self):
        chronicle = filled(2)
        _, left, right = chronicle.tree()
        for tree in (("branch", right, left), ("branch", left, None), ("branch", left, left), leaf("E0"),
                     ("branch", left, leaf("e1", (1, 2))), ("cut", (1, 0, (1,), "e0", "e1"))):
            for length in (0, 1, 2):
                self.check(False, root_of(SEALER, None), 0, chronicle.top(), length, tree)
        wrong = ("branch", leaf("e1", (1,)), leaf("e0", (1,)))
        self.check(False, root_of(SEALER, wrong), 2, root_of(SEALER, wrong), 2, wrong)


class ShelfTest(unittest.TestCase):
    """Point 102."""

    def shelf(self, most, epochs):
        shelf = Shelf(most)
        for epoch in epochs:
            self.assertIsNone(shelf.keep(epoch, TREES[epoch]))
        return shelf

    def check(self, shelf, kept, cut_off=(), never=()):
        self.assertEqual(shelf.kept(), list(kept))
        for epoch in kept:
            self.assertEqual(shelf.snapshot(epoch), TREES[epoch])
        for epoch in cut_off:
            self.assertEqual(outcome(shelf.snapshot, epoch), ("CutOff", {"epoch": epoch}))
        for epoch in never:
            self.assertEqual(outcome(shelf.snapshot, epoch), no_such(epoch))

    def test_numbers_of_snapshots(self):
        for most in (-1, 0, 21, 22):
            self.assertEqual(outcome(Shelf, most), ("InvalidShelf", {"most": most}))
        for most in (1, 2, 19, 20):
            self.check(self.shelf(most, []), [], never=(-1, 0, 1))
            self.check(self.shelf(most, range(most)), range(most), never=(-1, most))
            self.check(self.shelf(most, range(25)), range(25 - most, 25), range(25 - most), (-1, 25, 26))

    def test_after_each_one(self):
        shelf = Shelf(3)
        for epoch in range(9):
            shelf.keep(epoch, TREES[epoch])
            first = max(0, epoch - 2)
            self.check(shelf, range(first, epoch + 1), range(first), (-1, epoch + 1))

    def test_gaps(self):
        shelf = self.shelf(2, [3, 4])
        self.check(shelf, [3, 4], never=(0, 1, 2, 5))
        shelf.keep(9, TREES[9])
        self.check(shelf, [4, 9], [3], (0, 1, 2, 5, 8, 10))
        shelf.keep(20, TREES[20])
        self.check(shelf, [9, 20], [3, 4], (0, 1, 2, 5, 8, 10, 19, 21))

    def test_wrong_order(self):
        shelf = self.shelf(2, [3, 5, 7])
        for epoch in (-1, 0, 2, 3, 4, 5, 6, 7):
            self.assertEqual(outcome(shelf.keep, epoch, TREES[0]), no_such(epoch))
        self.check(shelf, [5, 7], [3], (-1, 0, 2, 4, 6, 8))
        shelf.keep(8, TREES[8])
        self.check(shelf, [7, 8], [3, 5], (4, 6))
        self.assertEqual(outcome(Shelf(3).keep, -1, TREES[0]), no_such(-1))
        self.check(self.shelf(1, [0]), [0])

    def test_empty_tree_as_a_snapshot(self):
        shelf = Shelf(2)
        shelf.keep(0, None)
        self.assertIsNone(shelf.snapshot(0))

    def test_lists_are_new_ones(self):
        shelf = self.shelf(2, [0, 1])
        shelf.kept().clear()
        self.assertEqual(shelf.kept(), [0, 1])
        rows = [(1, TREES[1])]
        shelf.keep_all(rows, 2)
        rows.append((5, TREES[5]))
        self.check(shelf, [1], [0], [5])

    def test_keep_all(self):
        shelf = self.shelf(3, [0, 1])
        self.assertIsNone(shelf.keep_all([(6, TREES[6]), (7, TREES[7]), (8, TREES[8])], 9))
        self.check(shelf, [6, 7, 8], range(6), (-1, 9, 10))
        for epoch in (0, 5, 8):
            self.assertEqual(outcome(shelf.keep, epoch, TREES[0]), no_such(epoch))
        shelf.keep(9, TREES[9])
        self.check(shelf, [7, 8, 9], range(7), (10,))

    def test_keep_all_replaces_everything(self):
        shelf = self.shelf(3, range(12))
        shelf.keep_all([(2, TREES[2])], 3)
        self.check(shelf, [2], [0, 1], (3, 4, 10, 11))
        shelf.keep(3, TREES[3])
        self.check(shelf, [2, 3], [0, 1], [4])
        shelf.keep_all([], 0)
        self.check(shelf, [], never=(0, 2, 3))
        shelf.keep(0, TREES[0])
        self.check(shelf, [0])

    def test_keep_all_with_gaps(self):
        shelf = self.shelf(3, [])
        shelf.keep_all([(1, TREES[1]), (4, TREES[4])], 6)
        self.check(shelf, [1, 4], [0, 2, 3, 5], [6])
        self.assertEqual(outcome(shelf.keep, 5, TREES[5]), no_such(5))
        shelf.keep(6, TREES[6])
        self.check(shelf, [1, 4, 6], [0, 2, 3, 5], [7])
        shelf.keep_all([], 4)
        self.check(shelf, [], range(4), (4, 6))
        self.assertEqual(outcome(shelf.keep, 3, TREES[3]), no_such(3))
        shelf.keep(4, TREES[4])
        self.check(shelf, [4], range(4))

    def test_keep_all_of_more_than_the_shelf_keeps(self):
        shelf = self.shelf(2, [])
        shelf.keep_all([(epoch, TREES[epoch]) for epoch in range(4)], 4)
        self.check(shelf, [2, 3], [0, 1], [4])

    def test_as_if_all_had_been_kept(self):
        for most in (1, 5, 20):
            for length in (0, 1, 4, 5, 6, 25):
                first = self.shelf(most, range(length))
                second = self.shelf(most, [0, 2])
                second.keep_all([(epoch, TREES[epoch]) for epoch in first.kept()], length)
                for shelf in (first, second):
                    begin = max(0, length - most)
                    self.check(shelf, range(begin, length), range(begin), (-1, length))
                    shelf.keep(length, TREES[length])
                    self.assertEqual(shelf.kept(), list(range(max(0, length + 1 - most), length + 1)))


if __name__ == "__main__":
    unittest.main()
