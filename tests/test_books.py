import unittest

from sumgrove.books import are_apart, do_all, join_books
from sumgrove.deeds import Group, Rules
from sumgrove.groups import do_group
from sumgrove.pruning import prune
from sumgrove.trees import root_of
from tests.helper import SEALER, accounts, locked, noted, outcome, signed

RULES = Rules(2, 0, {(0, 1): (1, 1)})
FEE = Rules(2, 1, {(0, 1): (1, 1)})
EPOCH = 3
TREE = accounts(ann=(10, 10), bank=(90, 90), bob=(5, 5), cid=((7, 7), locked(1)), dan=(0, 0), mint=(0, 0))


def group_of(*deeds, signatures=(), epoch=EPOCH):
    return Group(deeds, signatures, epoch)


def burn(name, amount, kind=0):
    return group_of(("burn", name, kind, amount))


def after(tree, *groups):
    for group in groups:
        tree = do_group(SEALER, RULES, EPOCH, tree, group)
    return tree


def book_refused(place, index, word):
    return ("BookRefused", {"place": place, "index_of_deed": index, "word": word})


class DoAllTest(unittest.TestCase):
    def outcome(self, groups, tree=TREE):
        return outcome(do_all, SEALER, RULES, EPOCH, tree, groups)

    def test_all_groups_in_order(self):
        self.assertEqual(self.outcome([]), ("returned", TREE))
        self.assertEqual(self.outcome([], None), ("returned", None))
        groups = [burn("bob", 5), group_of(("move", "ann", "bob", 0, 4)), burn("bob", 4)]
        self.assertEqual(self.outcome(groups), ("returned", after(TREE, *groups)))
        # In another order the groups could not be done.
        self.assertEqual(self.outcome(groups[::2] + groups[1:2]), book_refused(1, 0, "short"))

    def test_refused(self):
        self.assertEqual(self.outcome([burn("eve", 1)]), book_refused(0, 0, "unknown"))
        self.assertEqual(self.outcome([burn("bob", 5), burn("ann", 1), burn("bob", 1), burn("eve", 1)]),
                         book_refused(2, 0, "short"))
        wrong = group_of(("burn", "ann", 0, 1), ("burn", "cid", 0, 1))
        self.assertEqual(self.outcome([burn("ann", 1), wrong]), book_refused(1, 1, "unsigned"))
        self.assertEqual(self.outcome([burn("ann", 1), group_of(("burn", "ann", 0, 1), epoch=4)]),
                         book_refused(1, -1, "epoch"))
        self.assertEqual(self.outcome([group_of(("burn", "cid", 0, 1), signatures=(signed("cid", 2),))]),
                         book_refused(0, -1, "key"))

    def test_invalid_group_and_not_shown(self):
        self.assertEqual(self.outcome([burn("ann", 1), group_of(("burn", "ann", 0, 1), ("what",))]),
                         ("InvalidGroup", {"index_of_deed": 1}))
        shown = prune(SEALER, TREE, ["ann"])
        self.assertEqual(self.outcome([burn("ann", 1), burn("bob", 1)], shown), ("NotShown", {"name": "bob"}))
        self.assertEqual(self.outcome([burn("ann", 11), burn("bob", 1)], shown), book_refused(0, 0, "short"))

    def test_the_list_stays_as_it_was(self):
        groups = [burn("bob", 5), burn("ann", 1)]
        self.outcome(groups)
        self.assertEqual(groups, [burn("bob", 5), burn("ann", 1)])


class JoinTest(unittest.TestCase):
    """Point 115."""

    def outcome(self, first, second, tree=TREE):
        return outcome(join_books, SEALER, RULES, EPOCH, tree, first, second)

    def test_no_groups(self):
        self.assertEqual(self.outcome([], []), ("returned", (TREE, [])))
        self.assertEqual(self.outcome([burn("ann", 1)], []), ("returned", (after(TREE, burn("ann", 1)), [])))
        self.assertEqual(self.outcome([], [burn("ann", 1)]), ("returned", (after(TREE, burn("ann", 1)), [])))

    def test_first_book_first(self):
        first = [burn("bob", 5), group_of(("move", "ann", "bob", 0, 3))]
        second = [burn("bob", 3), burn("ann", 7)]
        self.assertEqual(self.outcome(first, second), ("returned", (after(TREE, *first, *second), [])))

    def test_clashes(self):
        first = [burn("bob", 3)]
        second = [burn("bob", 3), burn("ann", 4), group_of(("burn", "ann", 0, 1), ("burn", "ann", 0, 6)),
                  burn("bob", 2), group_of(("burn", "ann", 0, 1), epoch=4),
                  group_of(("burn", "cid", 0, 1), signatures=(signed("cid", 1),)),
                  group_of(("burn", "cid", 0, 1), signatures=(signed("cid", 1),))]
        tree = after(TREE, *first, second[1], second[3], second[5])
        clashes = [(0, 0, "short"), (2, 1, "short"), (4, -1, "epoch"), (6, -1, "key")]
        self.assertEqual(self.outcome(first, second), ("returned", (tree, clashes)))

    def test_first_book_refused(self):
        for second in ([], [burn("ann", 1)], [burn("eve", 1)]):
            self.assertEqual(self.outcome([burn("ann", 1), burn("bob", 6)], second), book_refused(1, 0, "short"))
        self.assertEqual(self.outcome([group_of(("burn", "ann", 0, 1), ("close", "cid"))], [burn("eve", 1)]),
                         book_refused(0, 1, "unsigned"))

    def test_invalid_group(self):
        wrong = group_of(("burn", "ann", 0, 1), ("burn", "ann", 0, 0))
        told = ("InvalidGroup", {"index_of_deed": 1})
        self.assertEqual(self.outcome([burn("ann", 1), wrong], []), told)
        self.assertEqual(self.outcome([], [burn("eve", 1), wrong]), told)
        self.assertEqual(self.outcome([burn("eve", 1)], [wrong]), book_refused(0, 0, "unknown"))

    def test_not_shown(self):
        shown = prune(SEALER, TREE, ["ann"])
        told = ("NotShown", {"name": "bob"})
        self.assertEqual(self.outcome([burn("ann", 1), burn("bob", 1)], [], shown), told)
        self.assertEqual(self.outcome([burn("ann", 1)], [burn("ann", 20), burn("bob", 1)], shown), told)
        self.assertEqual(self.outcome([burn("ann", 20)], [burn("bob", 1)], shown), book_refused(0, 0, "short"))

    def test_apart_in_both_orders(self):
        """Point 116."""
        first = [burn("ann", 5), group_of(("open", "eve", noted()), ("move", "ann", "eve", 0, 5)), burn("eve", 2)]
        second = [burn("bob", 5), group_of(("mint", "bob", 1, 5), ("close", "dan")),
                  group_of(("burn", "cid", 0, 1), signatures=(signed("cid", 1),))]
        for one in first:
            for other in second:
                self.assertIs(are_apart(RULES, one, other), True)
        there = self.outcome(first, second)[1]
        back = self.outcome(second, first)[1]
        self.assertEqual((there[1], back[1]), ([], []))
        self.assertEqual(root_of(SEALER, there[0]), root_of(SEALER, back[0]))
        self.assertEqual(there, back)

    def test_clashes_are_a_new_list(self):
        first, second = [burn("ann", 1)], [burn("eve", 1)]
        self.outcome(first, second)[1][1].clear()
        self.assertEqual(self.outcome(first, second)[1][1], [(0, 0, "unknown")])


class ApartTest(unittest.TestCase):
    """Point 116."""

    def check(self, expected, first, second, rules=RULES):
        self.assertIs(are_apart(rules, first, second), expected)
        self.assertIs(are_apart(rules, second, first), expected)

    def test_accounts(self):
        move = group_of(("move", "ann", "bob", 0, 1))
        self.check(True, burn("ann", 1), burn("bob", 1))
        self.check(False, burn("ann", 1), burn("ann", 1))
        self.check(False, burn("ann", 1), move)
        self.check(False, burn("bob", 1), move)
        self.check(True, burn("cid", 1), move)
        self.check(False, group_of(("close", "dan"), ("burn", "cid", 0, 1)), group_of(("burn", "cid", 0, 1)))
        self.check(False, group_of(("open", "eve", noted())), group_of(("rule", "eve", noted())))
        self.check(True, burn("ann", 1), burn("ann0", 1))

    def test_signatures(self):
        one = group_of(("burn", "ann", 0, 1), signatures=(signed("cid", 1),))
        self.check(False, one, burn("cid", 1))
        self.check(False, one, group_of(("burn", "bob", 0, 1), signatures=(signed("cid", 1),)))
        self.check(True, one, group_of(("burn", "bob", 0, 1), signatures=(signed("dan", 1),)))

    def test_bank(self):
        one, other = group_of(("move", "ann", "bob", 0, 1)), group_of(("move", "cid", "dan", 0, 1))
        self.check(True, one, other)
        self.check(False, one, other, FEE)
        self.check(False, group_of(("change", "ann", 0, 1, 1)), group_of(("change", "cid", 0, 1, 1)))
        self.check(True, group_of(("change", "ann", 0, 1, 1)), other)
        self.check(False, group_of(("change", "ann", 0, 1, 1)), other, FEE)
        self.check(False, group_of(("change", "ann", 0, 1, 1)), burn("bank", 1))

    def test_mint(self):
        one = group_of(("mint", "ann", 0, 1))
        self.check(False, one, group_of(("mint", "bob", 0, 1)))
        self.check(False, one, burn("mint", 1))
        self.check(True, one, burn("bob", 1))


if __name__ == "__main__":
    unittest.main()
