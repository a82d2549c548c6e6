import unittest

from sumgrove.copies import Copy
from sumgrove.deeds import Group, Rules, group_names
from sumgrove.groups import do_group
from sumgrove.pruning import join_trees, prune, prune_for
from sumgrove.questions import ask
from sumgrove.seals import Sealer
from sumgrove.trees import build, get, root_of
from tests.helper import SEALER, accounts, cut, leaf, locked, noted, outcome, refused, signed
from tests.test_collisions import pair_of_leaves, pair_of_tops

RULES = Rules(2, 1, {(0, 1): (3, 2)})
EPOCH = 3
WHOLE = accounts(ann=((50, 50), locked(1)), bank=(90, 90), bob=(5, 5), cid=(7, 7), dan=(0, 0), mint=(0, 0))
ROOT = root_of(SEALER, WHOLE)


def copy_of(*names, tree=WHOLE):
    return Copy(SEALER, RULES, EPOCH, root_of(SEALER, tree), prune(SEALER, tree, list(names)))


def group_of(*deeds, signatures=(), epoch=EPOCH):
    return Group(deeds, signatures, epoch)


MOVE = group_of(("move", "bob", "cid", 0, 2))
BURN = group_of(("burn", "ann", 1, 8), signatures=(signed("ann", 1),))


class CopyTest(unittest.TestCase):
    """Point 110."""

    def state(self, copy):
        return (copy.root(), copy.tree(), copy.epoch())

    def test_new_copy(self):
        for names in ((), ("bob",), ("bob", "cid", "zoe"), ("ann", "bank", "bob", "cid", "dan", "mint")):
            shown = prune(SEALER, WHOLE, list(names))
            self.assertEqual(self.state(copy_of(*names)), (ROOT, shown, EPOCH))
        self.assertEqual(self.state(Copy(SEALER, RULES, 0, root_of(SEALER, None), None)),
                         (root_of(SEALER, None), None, 0))

    def test_another_root(self):
        for tree in (WHOLE, prune(SEALER, WHOLE, ["bob"]), cut(WHOLE)):
            told = outcome(Copy, SEALER, RULES, EPOCH, ROOT + 1, tree)
            self.assertEqual(told, ("WrongRoot", {"root": ROOT}))
        empty = root_of(SEALER, None)
        self.assertEqual(outcome(Copy, SEALER, RULES, EPOCH, ROOT, None), ("WrongRoot", {"root": empty}))

    def test_answers(self):
        copy = copy_of("bob")
        self.assertEqual(copy.answer(("leaf", "bob")), ((5, 5), noted()))
        self.assertEqual(copy.answer(("total",)), (152, 152))
        self.assertEqual(copy.answer(("count",)), 6)
        self.assertEqual(copy.answer(("several", ("bob", "zoe"))), (((5, 5), noted()), None))
        self.assertEqual(outcome(copy.answer, ("leaf", "dan")), outcome(ask, SEALER, copy.tree(), ("leaf", "dan")))
        self.assertEqual(outcome(copy.answer, ("leaf", "dan"))[0], "NotShown")
        self.assertEqual(outcome(copy.answer, ("several", ("bob", "dan")))[0], "NotShown")
        shown = prune_for(SEALER, WHOLE, ("rank", "c"))
        self.assertEqual(Copy(SEALER, RULES, EPOCH, ROOT, shown).answer(("rank", "c")), 3)

    def test_next_epoch(self):
        copy = copy_of("bob", "cid", "bank")
        self.assertEqual(copy.next_epoch(), EPOCH + 1)
        self.assertEqual(self.state(copy), (ROOT, copy.tree(), EPOCH + 1))
        self.assertEqual(outcome(copy.do, MOVE), refused(-1, "epoch"))
        copy.do(group_of(*MOVE.deeds, epoch=EPOCH + 1))
        self.assertEqual(copy.next_epoch(), EPOCH + 2)
        far = Copy(SEALER, RULES, 1000, ROOT, WHOLE)
        self.assertEqual([far.next_epoch(), far.next_epoch(), far.epoch()], [1001, 1002, 1002])

    def test_copies_are_apart(self):
        first, second = copy_of("bob", "cid", "bank"), copy_of("bob", "cid", "bank")
        first.do(MOVE)
        first.next_epoch()
        self.assertEqual(self.state(second), (ROOT, prune(SEALER, WHOLE, ["bob", "cid", "bank"]), EPOCH))


class DoTest(unittest.TestCase):
    """Point 111."""

    def check(self, copy, group):
        """The copy comes to the same root as the whole ledger, or to the same refusal, and shows no less then."""
        told = outcome(do_group, SEALER, RULES, EPOCH, WHOLE, group)
        before = copy.tree()
        found = outcome(copy.do, group)
        if told[0] == "returned":
            self.assertEqual(found, ("returned", root_of(SEALER, told[1])))
            self.assertEqual(copy.root(), found[1])
            self.assertEqual(outcome(do_group, SEALER, RULES, EPOCH, before, group), ("returned", copy.tree()))
        else:
            self.assertEqual(found, told)
            self.assertEqual((copy.tree(), copy.root(), copy.epoch()), (before, ROOT, EPOCH))

    groups = [
        MOVE, BURN, group_of(("mint", "dan", 1, 5), ("change", "bob", 0, 1, 4)),
        group_of(("open", "eve", noted()), ("move", "cid", "eve", 0, 3), ("close", "dan")),
        group_of(("open", "ann0", noted())), group_of(("close", "dan"), ("open", "dan", locked(5))),
        group_of(("burn", "ann", 1, 8)), group_of(("burn", "ann", 1, 8), signatures=(signed("ann", 2),)),
        group_of(("move", "bob", "cid", 0, 6)), group_of(("burn", "bob", 0, 1), ("open", "cid", noted())),
        group_of(("close", "zoe")), group_of(("open", "zoe", noted()), ("close", "bob")),
        group_of(("rule", "bob", noted()), epoch=2), group_of(("burn", "bob", 0, 0)), group_of(),
    ]

    def test_whole_and_enough(self):
        for group in self.groups:
            self.check(Copy(SEALER, RULES, EPOCH, ROOT, WHOLE), group)
            if group.deeds:
                self.check(copy_of(*group_names(RULES, group)), group)
                self.check(copy_of("bob", *group_names(RULES, group)), group)

    def test_too_little(self):
        for names, missing in (((), "bob"), (("cid", "bank"), "bob"), (("bob", "bank"), "cid"),
                               (("bob", "cid"), "bank")):
            copy = copy_of(*names)
            self.assertEqual(outcome(copy.do, MOVE), ("NotShown", {"name": missing}))
            self.assertEqual((copy.root(), copy.tree()), (ROOT, prune(SEALER, WHOLE, list(names))))
        copy = copy_of("bob")
        group = group_of(("burn", "bob", 0, 1), signatures=(signed("ann", 1),))
        self.assertEqual(outcome(copy.do, group), ("NotShown", {"name": "ann"}))
        # What was done before the deed that needs more is not kept.
        group = group_of(("burn", "bob", 0, 1), ("close", "dan"))
        self.assertEqual(outcome(copy.do, group), ("NotShown", {"name": "dan"}))
        self.assertEqual(copy.tree(), prune(SEALER, WHOLE, ["bob"]))

    def test_too_little_for_opening(self):
        copy = copy_of("bob")
        self.assertEqual(outcome(copy.do, group_of(("open", "dab", noted()))), ("NotShown", {"name": "dab"}))
        self.assertEqual(copy.tree(), prune(SEALER, WHOLE, ["bob"]))

    def test_invalid_group_first(self):
        copy = copy_of()
        self.assertEqual(outcome(copy.do, group_of(("burn", "dan", 0, 0))), ("InvalidGroup", {"index_of_deed": 0}))
        self.assertEqual(outcome(copy.do, group_of(epoch=9)), ("InvalidGroup", {"index_of_deed": -1}))
        self.assertEqual(copy.tree(), cut(WHOLE))

    def test_groups_one_after_the_other(self):
        copy = copy_of("ann", "bank", "bob", "cid")
        tree = WHOLE
        for group in (MOVE, BURN, MOVE, group_of(("move", "bob", "cid", 0, 9)), group_of(("open", "ann0", noted()))):
            told = outcome(do_group, SEALER, RULES, EPOCH, tree, group)
            tree = told[1] if told[0] == "returned" else tree
            found = outcome(copy.do, group)
            self.assertEqual(found, ("returned", root_of(SEALER, tree)) if told[0] == "returned" else told)
            self.assertEqual(copy.root(), root_of(SEALER, tree))
        self.assertEqual(copy.answer(("leaf", "bob")), ((2, 5), noted()))


class GrowTest(unittest.TestCase):
    """Point 110: growing."""

    def test_growing(self):
        copy = copy_of("bob", "bank")
        other = prune(SEALER, WHOLE, ["cid"])
        self.assertIsNone(copy.grow(other))
        self.assertEqual(copy.tree(), join_trees(SEALER, prune(SEALER, WHOLE, ["bob", "bank"]), other))
        self.assertEqual(copy.tree(), prune(SEALER, WHOLE, ["bob", "bank", "cid"]))
        self.assertEqual((copy.root(), copy.epoch()), (ROOT, EPOCH))
        self.assertEqual(copy.do(MOVE), root_of(SEALER, do_group(SEALER, RULES, EPOCH, WHOLE, MOVE)))
        copy.grow(prune(SEALER, do_group(SEALER, RULES, EPOCH, WHOLE, MOVE), ["dan"]))
        self.assertEqual(get(copy.tree(), "dan"), leaf("dan", (0, 0), noted()))
        self.assertEqual(get(copy.tree(), "bob"), leaf("bob", (2, 5), noted()))

    def test_growing_by_all_and_by_nothing(self):
        copy = copy_of()
        copy.grow(cut(WHOLE))
        self.assertEqual(copy.tree(), cut(WHOLE))
        copy.grow(WHOLE)
        self.assertEqual(copy.tree(), WHOLE)
        copy.grow(cut(WHOLE))
        self.assertEqual(copy.tree(), WHOLE)

    def test_another_root(self):
        copy = copy_of("bob", "bank", "cid")
        other = accounts(ann=(1, 1))
        self.assertEqual(outcome(copy.grow, other), ("WrongRoot", {"root": root_of(SEALER, other)}))
        self.assertEqual(outcome(copy.grow, None), ("WrongRoot", {"root": root_of(SEALER, None)}))
        self.assertEqual(copy.tree(), prune(SEALER, WHOLE, ["bob", "bank", "cid"]))
        # What is of an earlier root is not joined.
        copy.do(MOVE)
        after = copy.tree()
        self.assertEqual(outcome(copy.grow, prune(SEALER, WHOLE, ["dan"])), ("WrongRoot", {"root": ROOT}))
        self.assertEqual(copy.tree(), after)

    def test_unlike_trees(self):
        small = Sealer(101)
        for first, second in (pair_of_tops(), pair_of_leaves("a")):
            copy = Copy(small, RULES, EPOCH, root_of(small, first), first)
            told = outcome(copy.grow, second)
            self.assertEqual(told[0], "Unlike")
            # The tree of the copy comes first.
            self.assertEqual(told, outcome(join_trees, small, first, second))
            self.assertNotEqual(told, outcome(join_trees, small, second, first))
            self.assertEqual(copy.tree(), first)


class ForgetTest(unittest.TestCase):
    """Point 112."""

    def test_forget(self):
        for names in ([], ["bob"], ["bob", "cid"], ["zoe"], ["dan", "bob", "bob"]):
            copy = Copy(SEALER, RULES, EPOCH, ROOT, WHOLE)
            self.assertIsNone(copy.forget(names))
            self.assertEqual((copy.tree(), copy.root(), copy.epoch()), (prune(SEALER, WHOLE, names), ROOT, EPOCH))

    def test_forget_and_then_ask(self):
        copy = Copy(SEALER, RULES, EPOCH, ROOT, WHOLE)
        self.assertEqual(copy.answer(("leaf", "dan")), ((0, 0), noted()))
        copy.forget(["bob", "cid", "bank"])
        self.assertEqual(outcome(copy.answer, ("leaf", "dan"))[0], "NotShown")
        self.assertEqual(copy.answer(("leaf", "bob")), ((5, 5), noted()))
        self.assertEqual(copy.answer(("count",)), 6)
        self.assertEqual(outcome(copy.do, BURN), ("NotShown", {"name": "ann"}))
        self.assertEqual(copy.do(MOVE), root_of(SEALER, do_group(SEALER, RULES, EPOCH, WHOLE, MOVE)))
        copy.forget([])
        self.assertEqual(copy.tree(), cut(do_group(SEALER, RULES, EPOCH, WHOLE, MOVE)))

    def test_what_is_not_shown_is_not_found_again(self):
        copy = copy_of("bob")
        copy.forget(["cid", "dan"])
        self.assertEqual(outcome(copy.answer, ("leaf", "cid"))[0], "NotShown")
        self.assertEqual(copy.root(), ROOT)

    def test_the_list_stays_as_it_was(self):
        names = ["cid", "bob"]
        Copy(SEALER, RULES, EPOCH, ROOT, WHOLE).forget(names)
        self.assertEqual(names, ["cid", "bob"])

    def test_empty_tree(self):
        copy = Copy(SEALER, RULES, EPOCH, root_of(SEALER, build([])), None)
        copy.forget(["bob"])
        self.assertIsNone(copy.tree())


if __name__ == "__main__":
    unittest.main()
