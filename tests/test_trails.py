import unittest

from sumgrove.collisions import find_collision
from sumgrove.deeds import Group, Rules, group_names
from sumgrove.errors import GroveError
from sumgrove.groups import do_group
from sumgrove.names import number_of
from sumgrove.pruning import prune
from sumgrove.seals import Sealer, is_collision
from sumgrove.trees import build, get, leaves_of, put, root_of
from sumgrove.trails import BadStep, Receipts, check_receipt, check_trail, mark_of_group, row_of_group, step_of
from tests.helper import SEALER, accounts, cut, leaf, locked, noted, outcome, parts_of, signed, told_cut, with_cut_at
from tests.test_group_model import EPOCH as MODEL_EPOCH
from tests.test_group_model import some_cases, tree_of

RULES = Rules(2, 1, {(0, 1): (1, 1)})
FREE = Rules(2, 0, {})
EPOCH = 3
TREE = accounts(ann=(10, 10), bank=(90, 90), bob=(5, 5), cid=((7, 7), locked(1)), dan=(0, 0), mint=(0, 0))
ROOT = root_of(SEALER, TREE)
EMPTY_ROOT = root_of(SEALER, None)
NOTES = noted((5, 6, 0), 2, 50, (1, 20, 9))


def group_of(*deeds, signatures=(), epoch=EPOCH):
    return Group(deeds, signatures, epoch)


def burn(name, amount, kind=0):
    return group_of(("burn", name, kind, amount))


class RowTest(unittest.TestCase):
    """Point 140."""

    def check(self, group, row):
        self.assertEqual(row_of_group(group), row)
        self.assertIsInstance(row_of_group(group), tuple)
        for sealer in (SEALER, Sealer(101)):
            self.assertEqual(mark_of_group(sealer, group), sealer.seal(row))

    def test_each_deed(self):
        ann, bob = number_of("ann"), number_of("bob")
        for deed, items in ((("open", "ann", NOTES), (1, ann, *NOTES)), (("close", "ann"), (2, ann)),
                            (("move", "ann", "bob", 1, 5), (3, ann, bob, 1, 5)), (("mint", "ann", 0, 5), (4, ann, 0, 5)),
                            (("burn", "ann", 1, 5), (5, ann, 1, 5)), (("change", "ann", 0, 1, 5), (6, ann, 0, 1, 5)),
                            (("rule", "ann", NOTES), (7, ann, *NOTES))):
            self.check(group_of(deed, epoch=0), (0, 1, *items, 0))
            self.check(group_of(deed, ("close", "bob"), deed, epoch=8), (8, 3, *items, 2, bob, *items, 0))

    def test_in_numbers(self):
        group = group_of(("close", "a"), signatures=(("a", ((1, 5, 7),)),), epoch=4)
        self.check(group, (4, 1, 2, 52776558133248, 1, 52776558133248, 1, 1, 5, 7))

    def test_signatures(self):
        ann, bob, zoe = number_of("ann"), number_of("bob"), number_of("zoe")
        shown = ("zoe", ((0, 11, 12),)), ("ann", ((0, 21, 22), (2, 23, 24))), ("bob", ((0, 0, 1), (1, 3, 4), (2, 5, 6)))
        for many, items in ((0, ()), (1, (zoe, 1, 0, 11, 12)), (2, (zoe, 1, 0, 11, 12, ann, 2, 0, 21, 22, 2, 23, 24)),
                            (3, (zoe, 1, 0, 11, 12, ann, 2, 0, 21, 22, 2, 23, 24,
                                 bob, 3, 0, 0, 1, 1, 3, 4, 2, 5, 6))):
            self.check(group_of(("close", "bob"), signatures=shown[:many]), (EPOCH, 1, 2, bob, many, *items))

    def test_the_group_stays_as_it_was(self):
        group = group_of(("open", "ann", NOTES), signatures=(signed("bob", 1, 2),))
        row_of_group(group)
        self.assertEqual(group, group_of(("open", "ann", NOTES), signatures=(signed("bob", 1, 2),)))


def receipts_of(groups):
    receipts = Receipts(SEALER)
    for number, group in enumerate(groups):
        receipts.add(group, 1000 + number)
    return receipts


def receipt_leaf(number, group):
    return leaf(f"g{number}", (1,), (mark_of_group(SEALER, group), 1000 + number))


GROUPS = [burn("ann", amount + 1) for amount in range(11)]


class ReceiptsTest(unittest.TestCase):
    """Point 141."""

    def test_no_groups(self):
        receipts = Receipts(SEALER)
        self.assertEqual(receipts.root(), EMPTY_ROOT)
        for number in (-1, 0, 1):
            self.assertEqual(outcome(receipts.show, number), ("NoSuchName", {"name": f"g{number}"}))

    def test_one_and_eleven_groups(self):
        receipts = Receipts(SEALER)
        for number, group in enumerate(GROUPS):
            self.assertEqual(receipts.add(group, 1000 + number), number)
            tree = build([receipt_leaf(*pair) for pair in enumerate(GROUPS[:number + 1])])
            self.assertEqual(receipts.root(), root_of(SEALER, tree))
            for shown in range(number + 1):
                self.assertEqual(receipts.show(shown), prune(SEALER, tree, [f"g{shown}"]))
                self.assertEqual(get(receipts.show(shown), f"g{shown}"), receipt_leaf(shown, GROUPS[shown]))
            for missing in (-1, -2, number + 1, number + 20):
                self.assertEqual(outcome(receipts.show, missing), ("NoSuchName", {"name": f"g{missing}"}))

    def test_the_same_group_twice(self):
        receipts = Receipts(SEALER)
        self.assertEqual([receipts.add(GROUPS[0], 5), receipts.add(GROUPS[0], 5)], [0, 1])
        notes = (mark_of_group(SEALER, GROUPS[0]), 5)
        tree = build([leaf("g0", (1,), notes), leaf("g1", (1,), notes)])
        self.assertEqual(receipts.root(), root_of(SEALER, tree))


class CheckReceiptTest(unittest.TestCase):
    """Point 141."""

    def setUp(self):
        self.receipts = receipts_of(GROUPS)
        self.root = self.receipts.root()

    def check(self, expected, number, group, root, tree, receipts_root=None):
        receipts_root = self.root if receipts_root is None else receipts_root
        self.assertIs(check_receipt(SEALER, receipts_root, number, group, root, tree), expected)

    def test_true_receipts(self):
        for number, group in enumerate(GROUPS):
            self.check(True, number, group, 1000 + number, self.receipts.show(number))

    def test_each_thing_changed(self):
        tree = self.receipts.show(4)
        self.check(True, 4, GROUPS[4], 1004, tree)
        self.check(False, 4, GROUPS[4], 1004, tree, self.root + 1)
        self.check(False, 4, GROUPS[4], 1004, tree, EMPTY_ROOT)
        for number in (0, 3, 5, 11, 40, -4, -1):
            self.check(False, number, GROUPS[4], 1004, tree)
        for group in (GROUPS[5], group_of(*GROUPS[4].deeds, epoch=2), burn("ann", 5, 1), burn("bob", 5),
                      group_of(*GROUPS[4].deeds, signatures=(signed("ann", 1),)), group_of(*GROUPS[4].deeds * 2)):
            self.check(False, 4, group, 1004, tree)
        for root in (1003, 1005, 0, self.root):
            self.check(False, 4, GROUPS[4], root, tree)

    def test_trees(self):
        whole = build([receipt_leaf(*pair) for pair in enumerate(GROUPS)])
        self.check(True, 4, GROUPS[4], 1004, whole)
        self.check(False, 4, GROUPS[4], 1004, self.receipts.show(5))
        self.check(False, 4, GROUPS[4], 1004, cut(whole))
        self.check(False, 4, GROUPS[4], 1004, None)
        self.check(False, 4, GROUPS[4], 1004, receipts_of(GROUPS[:10]).show(4))
        self.check(False, 4, GROUPS[4], 1004, put(whole, leaf("g4", (1,), (1, 2))))
        for place, part in enumerate(parts_of(whole)):
            shown = "g4" not in [one[1] for one in leaves_of(part)]
            self.check(shown, 4, GROUPS[4], 1004, with_cut_at(whole, place))

    def test_trees_that_are_not_well_formed(self):
        whole = build([receipt_leaf(*pair) for pair in enumerate(GROUPS)])
        _, left, right = whole
        for wrong in (("branch", right, left), ("branch", left, None), ("branch", whole, whole), told_cut(count=0),
                      ("branch", left, leaf("g9", (1, 1)))):
            self.check(False, 4, GROUPS[4], 1004, wrong)
        # All else is right here: the leaf is found, and the root is the one that such a tree would have.
        wrong = ("branch", receipt_leaf(4, GROUPS[4]), leaf("g3", (1,), (1, 2)))
        self.check(False, 4, GROUPS[4], 1004, wrong, root_of(SEALER, wrong))

    def test_bounds_of_the_number(self):
        for number, name in ((0, "g0"), (9999999, "g9999999"), (5555555, "g5555555")):
            tree = leaf(name, (1,), (mark_of_group(SEALER, GROUPS[0]), 7))
            self.check(True, number, GROUPS[0], 7, tree, root_of(SEALER, tree))
        tree = leaf("g1000000", (1,), (mark_of_group(SEALER, GROUPS[0]), 7))
        for number in (-1, -1000000, 10000000, 99999999, 10 ** 30):
            self.check(False, number, GROUPS[0], 7, tree, root_of(SEALER, tree))

    def test_notes_of_other_lengths(self):
        mark = mark_of_group(SEALER, GROUPS[0])
        for notes, expected in (((mark, 7), True), ((mark,), False), ((mark, 7, 7), False), ((), False),
                                ((7, mark), False)):
            tree = leaf("g0", (1,), notes)
            self.check(expected, 0, GROUPS[0], 7, tree, root_of(SEALER, tree))

    def test_groups_that_are_none(self):
        for group in (group_of(("what", "ann", 0, 1)), group_of(("burn", "ANN", 0, 1)), group_of(("burn",)), group_of(),
                      group_of(("burn", "ann", -1, (2, 3)))):
            self.check(False, 0, group, 1000, self.receipts.show(0))

    def test_other_names_in_the_tree(self):
        tree = build([leaf("h0", (1,), (mark_of_group(SEALER, GROUPS[0]), 7)), leaf("g1", (1,), (1, 2))])
        self.check(False, 0, GROUPS[0], 7, tree, root_of(SEALER, tree))


OPEN = group_of(("open", "eve", noted()), ("move", "ann", "eve", 0, 3))
SIGNED = group_of(("burn", "cid", 0, 2), signatures=(signed("cid", 1),))
CHANGE = group_of(("change", "eve", 0, 1, 2))
CLOSE = group_of(("close", "dan"))
MINT = group_of(("mint", "bob", 1, 4))
RUN = [OPEN, SIGNED, CHANGE, CLOSE, MINT, burn("bob", 1)]


def trail_of(groups, tree=TREE, rules=RULES, epoch=EPOCH):
    """The trail of groups, and the root and the root of the receipts after them."""
    trail = []
    receipts = Receipts(SEALER)
    for group in groups:
        trail.append((group, step_of(SEALER, rules, tree, group)))
        tree = do_group(SEALER, rules, epoch, tree, group)
        receipts.add(group, root_of(SEALER, tree))
    return trail, (root_of(SEALER, tree), receipts.root())


class StepTest(unittest.TestCase):
    """Point 142."""

    def test_names_that_are_open(self):
        for group, names in ((burn("ann", 1), ["ann"]), (group_of(("move", "ann", "bob", 0, 1)), ["ann", "bank", "bob"]),
                             (group_of(("change", "ann", 0, 1, 1)), ["ann", "bank"]), (MINT, ["bob", "mint"]),
                             (SIGNED, ["cid"]), (OPEN, ["ann", "bank", "eve"])):
            step = step_of(SEALER, RULES, TREE, group)
            self.assertEqual(step, prune(SEALER, TREE, names))
            self.assertEqual(step, prune(SEALER, TREE, group_names(RULES, group)))
            self.assertEqual(root_of(SEALER, step), ROOT)
            after = do_group(SEALER, RULES, EPOCH, TREE, group)
            self.assertEqual(root_of(SEALER, do_group(SEALER, RULES, EPOCH, step, group)), root_of(SEALER, after))

    def test_without_a_fee(self):
        move = group_of(("move", "ann", "bob", 0, 1))
        self.assertEqual(step_of(SEALER, FREE, TREE, move), prune(SEALER, TREE, ["ann", "bob"]))

    def test_empty_tree(self):
        self.assertIsNone(step_of(SEALER, RULES, None, burn("ann", 1)))


class TrailTest(unittest.TestCase):
    """Point 143."""

    def check(self, expected, trail, before=ROOT, rules=RULES, epoch=EPOCH):
        self.assertEqual(outcome(check_trail, SEALER, rules, epoch, before, trail), expected)

    def check_bad(self, place, trail, **more):
        self.check(("BadStep", {"place": place}), trail, **more)

    def check_bad_tree(self, tree, group=burn("ann", 1)):
        """A tree that is wrong in the first step, whose root is taken to be the one before, and behind others."""
        if None not in tree:
            self.check_bad(0, [(group, tree)], before=root_of(SEALER, tree))
        trail, _ = trail_of(RUN[:2])
        self.check_bad(2, [*trail, (group, tree), *trail])

    def test_no_steps(self):
        for before in (ROOT, EMPTY_ROOT, 0, 5):
            self.check(("returned", (before, EMPTY_ROOT)), [], before=before)

    def test_one_step(self):
        for group in RUN:
            if group != CHANGE:
                trail, ends = trail_of([group])
                self.check(("returned", ends), trail)

    def test_several_steps(self):
        trail, ends = trail_of(RUN)
        self.check(("returned", ends), trail)
        self.assertIsInstance(check_trail(SEALER, RULES, EPOCH, ROOT, trail), tuple)
        whole = []
        tree = TREE
        for group in RUN:
            whole.append((group, tree))
            tree = do_group(SEALER, RULES, EPOCH, tree, group)
        self.check(("returned", ends), whole)
        for many in range(len(RUN)):
            self.check(("returned", trail_of(RUN[:many])[1]), trail[:many])

    def test_receipts(self):
        trail, _ = trail_of(RUN)
        _, receipts_root = check_trail(SEALER, RULES, EPOCH, ROOT, trail)
        receipts = Receipts(SEALER)
        tree = TREE
        for number, group in enumerate(RUN):
            tree = do_group(SEALER, RULES, EPOCH, tree, group)
            receipts.add(group, root_of(SEALER, tree))
        for number, group in enumerate(RUN):
            after = root_of(SEALER, trail[number + 1][1]) if number + 1 < len(RUN) else root_of(SEALER, tree)
            self.assertTrue(check_receipt(SEALER, receipts_root, number, group, after, receipts.show(number)))

    def test_trees_that_are_not_well_formed(self):
        ann, bob = get(TREE, "ann"), get(TREE, "bob")
        for tree in (("branch", bob, ann), ("branch", ann, ann), leaf("ANN", (5, 5), noted()), told_cut(count=0),
                     leaf("ann", (-1, 5), noted()), told_cut(seal=-1, sums=(1, 1))):
            self.check_bad_tree(tree)
        self.check_bad_tree(("branch", ann, None))
        self.check_bad_tree(("branch", None, ann))

    def test_leaves_that_are_no_accounts(self):
        for worths, notes in (((5,), noted()), ((5, 5, 5), noted()), ((10 ** 12 + 1, 5), noted()), ((5, 5), ()),
                              ((5, 5), noted(need=1)), ((5, 5), (*noted(), 0)), ((5, 5), noted(hold=(2, 0, 0)))):
            tree = leaf("ann", worths, notes)
            self.check_bad_tree(tree)
            other = leaf("zoe", worths, notes)
            self.check_bad_tree(build([leaf("ann", (5,) * len(worths), noted()), other]))
            if len(worths) == 2:
                both = build([leaf("ann", (5, 5), noted()), other])
                self.check_bad_tree(both)
                self.check(("returned", trail_of([burn("ann", 1)], prune(SEALER, both, ["ann"]))[1]),
                           [(burn("ann", 1), prune(SEALER, both, ["ann"]))], before=root_of(SEALER, both))

    def test_cuts_with_other_sums(self):
        for sums in ((5,), (5, 5, 5)):
            self.check_bad_tree(told_cut(sums=sums), group=group_of(("open", "ann", noted())))
        # Here nothing of the cut is needed.
        tree = told_cut(sums=(5, 5))
        group = group_of(("open", "zoe", noted()))
        self.check(("returned", trail_of([group], tree)[1]), [(group, tree)], before=root_of(SEALER, tree))

    def test_other_roots(self):
        trail, _ = trail_of(RUN)
        self.check_bad(0, trail, before=ROOT + 1)
        self.check_bad(0, trail, before=EMPTY_ROOT)
        for place in range(len(RUN) - 1):
            self.check_bad(place, trail[:place] + trail[place + 1:])
            self.check_bad(place + 1, trail[:place + 1] + trail[place:])
        for place, (group, tree) in enumerate(trail):
            other = put(TREE, leaf("zoe", (1, 1), noted()))
            self.check_bad(place, trail[:place] + [(group, other)] + trail[place + 1:])

    def test_refused_groups(self):
        trail, _ = trail_of(RUN[:3])
        tree = outcome(do_all, RUN[:3])[1]
        for group in (burn("bob", 6), burn("cid", 1), group_of(("close", "zoe")), group_of(("burn", "bob", 0, 1), epoch=4),
                      SIGNED):
            self.check_bad(3, [*trail, (group, tree)])
            self.check_bad(3, [*trail, (group, step_of(SEALER, RULES, tree, group))])

    def test_groups_of_a_wrong_form(self):
        trail, _ = trail_of(RUN[:1])
        tree = do_all(RUN[:1])
        for group in (burn("bob", 0), burn("bob", 1, 2), group_of(), group_of(("what", "bob")), burn("BOB", 1),
                      group_of(("burn", "bob", 0, 1), epoch=-1)):
            self.check_bad(1, [*trail, (group, tree)])

    def test_what_is_not_shown(self):
        for names in (["ann"], ["bank"], ["eve"], ["bob", "cid"], []):
            trail, _ = trail_of(RUN)
            trail[0] = (OPEN, prune(SEALER, TREE, names))
            self.check_bad(0, trail)
        trail, _ = trail_of(RUN[:4])
        trail[3] = (CLOSE, cut(do_all(RUN[:3])))
        self.check_bad(3, trail)

    def test_other_epochs_and_rules(self):
        trail, _ = trail_of(RUN)
        for epoch in (0, 2, 4):
            self.check_bad(0, trail, epoch=epoch)
        self.check_bad(0, trail, rules=Rules(1, 1, {}))
        self.check_bad(2, trail, rules=Rules(2, 1, {}))

    def test_two_bad_steps(self):
        trail, _ = trail_of(RUN)
        for first in range(len(RUN)):
            for second in range(first + 1, len(RUN)):
                bad = list(trail)
                bad[first] = (burn("bob", 100), trail[first][1])
                bad[second] = (trail[second][0], None)
                self.check_bad(first, bad)
                bad[first] = (trail[first][0], None)
                bad[second] = (burn("bob", 0), trail[second][1])
                self.check_bad(first, bad)

    def test_the_trail_stays_as_it_was(self):
        trail, _ = trail_of(RUN)
        check_trail(SEALER, RULES, EPOCH, ROOT, trail)
        self.assertEqual(trail, trail_of(RUN)[0])

    def test_error_class(self):
        self.assertEqual(BadStep.__bases__, (GroveError,))
        self.assertEqual(vars(BadStep(4)), {"place": 4})
        self.assertEqual(vars(BadStep(place=4)), {"place": 4})


def do_all(groups, tree=TREE):
    for group in groups:
        tree = do_group(SEALER, RULES, EPOCH, tree, group)
    return tree


class FollowTest(unittest.TestCase):
    """Point 144."""

    def test_accounts_that_are_not_touched_are_not_needed(self):
        trail, ends = trail_of([burn("ann", 1), burn("bob", 1)])
        for _, tree in trail:
            self.assertEqual(len(leaves_of(tree)), 1)
        self.assertEqual(check_trail(SEALER, RULES, EPOCH, ROOT, trail), ends)

    def test_the_whole_ledger_comes_to_the_same_root(self):
        trail, ends = trail_of(RUN)
        self.assertEqual(ends[0], root_of(SEALER, do_all(RUN)))
        self.assertEqual(check_trail(SEALER, RULES, EPOCH, ROOT, trail), ends)

    def test_many_trails(self):
        many = 0
        start, trail = {}, []
        for place, (_, rules, now, group) in enumerate(some_cases(11, 2500)):
            if place % 10 == 0:
                start, trail, receipts = tree_of(now), [], Receipts(SEALER)
            tree = tree_of(now)
            word, after = outcome(do_group, SEALER, rules, MODEL_EPOCH, tree, group)
            trail.append((group, step_of(SEALER, rules, tree, group)))
            before = root_of(SEALER, start)
            found = outcome(check_trail, SEALER, rules, MODEL_EPOCH, before, trail)
            if word == "returned":
                receipts.add(group, root_of(SEALER, after))
                self.assertEqual(found, ("returned", (root_of(SEALER, after), receipts.root())))
                many += len(trail) > 2
            else:
                self.assertEqual(found, ("BadStep", {"place": len(trail) - 1}))
                trail.pop()
        self.assertGreater(many, 50)

    def test_another_root_comes_with_a_collision(self):
        """With a small modulus there are other trees of the same root, and so trails to other roots."""
        sealer, rules = Sealer(11), Rules(1, 0, {})
        group = Group((("burn", "ann", 0, 1),), (), 0)
        honest = accounts(ann=(5,), bob=(7,))
        root = root_of(sealer, honest)
        after = root_of(sealer, do_group(sealer, rules, 0, honest, group))
        others = 0
        for ann in range(1, 20):
            for tree in [accounts(ann=(ann,), bob=(bob,)) for bob in range(20)] + [accounts(ann=(ann,))]:
                if root_of(sealer, tree) == root:
                    for shown in (tree, step_of(sealer, rules, tree, group)):
                        told, _ = check_trail(sealer, rules, 0, root, [(group, shown)])
                        if told != after:
                            others += 1
                            self.assertTrue(is_collision(sealer, *find_collision(sealer, shown, honest)))
        self.assertGreater(others, 10)


if __name__ == "__main__":
    unittest.main()
