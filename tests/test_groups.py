import unittest

from sumgrove.deeds import Group, Rules
from sumgrove.groups import do_group
from sumgrove.pruning import prune
from sumgrove.trees import build, drop, get, leaves_of, put
from tests.helper import (SEALER, accounts, cut, leaf, lock, locked, noted, outcome, refused, signed)

RULES = Rules(2, 0, {(0, 1): (3, 2), (1, 0): (1, 4)})
EPOCH = 3
BEGIN = ("open", "z", noted())


class GroupsTest(unittest.TestCase):
    def outcome(self, tree, deeds, *signatures, rules=RULES, epoch=EPOCH):
        before = repr(tree)
        told = outcome(do_group, SEALER, rules, epoch, tree, Group(tuple(deeds), signatures, EPOCH))
        self.assertEqual(repr(tree), before)
        return told

    def done(self, tree, deeds, *signatures, **more):
        """The accounts after a group, as a dict from names to (worths, notes)."""
        word, result = self.outcome(tree, deeds, *signatures, **more)
        self.assertEqual(word, "returned", (deeds, result))
        leaves = leaves_of(result)
        self.assertEqual(build(leaves), result)
        return {one[1]: one[2:] for one in leaves}

    def worths(self, tree, deeds, *signatures, **more):
        return {name: row[0] for name, row in self.done(tree, deeds, *signatures, **more).items()}

    def refused(self, expected, tree, deeds, *signatures, **more):
        self.assertEqual(self.outcome(tree, deeds, *signatures, **more), refused(*expected), deeds)


class SignaturesTest(GroupsTest):
    """Point 83."""

    tree = accounts(ann=((50, 0), locked(1, 2, 3, need=2)), bob=(5, 5), cid=((7, 7), locked(4)))
    move = (("move", "ann", "bob", 0, 10),)

    def test_wrong_epoch(self):
        group = Group((("burn", "bob", 0, 1),), (), 3)
        for epoch in (2, 4, 0, 1000):
            self.assertEqual(outcome(do_group, SEALER, RULES, epoch, self.tree, group), refused(-1, "epoch"))
        self.assertEqual(outcome(do_group, SEALER, RULES, 3, self.tree, group)[0], "returned")

    def test_epoch_before_signatures_and_deeds(self):
        self.refused((-1, "epoch"), self.tree, [("close", "dan")], epoch=4)
        self.refused((-1, "epoch"), self.tree, self.move, signed("dan", 1), epoch=4)
        self.refused((-1, "epoch"), cut(self.tree), self.move, signed("ann", 8), epoch=4)

    def test_unknown(self):
        self.refused((-1, "unknown"), self.tree, self.move, signed("dan", 1))
        self.refused((-1, "unknown"), self.tree, self.move, signed("ann", 1, 2), signed("dan", 1))
        self.refused((-1, "unknown"), None, self.move, signed("ann", 1, 2))
        # An account that the group is to open is not there yet.
        self.refused((-1, "unknown"), self.tree, [("open", "dan", noted())], signed("dan", 1))

    def test_wrong_keys(self):
        for keys in ((9,), (2,), (1, 9), (9, 2), (2, 1), (1, 2, 9), (9, 2, 3)):
            self.refused((-1, "key"), self.tree, self.move, signed("ann", *keys))
        self.refused((-1, "key"), self.tree, self.move, signed("ann", 1, 2), signed("cid", 9))

    def test_place_without_a_lock(self):
        tree = put(self.tree, leaf("dan", (1, 1), noted((0, lock(1), 0), 1)))
        deeds = [("burn", "dan", 0, 1)]
        self.refused((-1, "key"), tree, deeds, ("dan", ((0, 1, 5),)))
        self.refused((-1, "key"), tree, deeds, ("dan", ((2, 1, 5),)))
        self.refused((-1, "key"), tree, deeds, ("dan", ((0, 0, 5), (1, 1, 5))))
        self.refused((-1, "key"), tree, deeds, ("dan", ((1, 1, 5), (2, 1, 5))))
        self.refused((-1, "key"), tree, deeds, ("bob", ((0, 0, 5),)))
        self.done(tree, deeds, ("dan", ((1, 1, 5),)))

    def test_the_first_signature_that_fails(self):
        self.refused((-1, "unknown"), self.tree, self.move, signed("dan", 1), signed("ann", 9))
        self.refused((-1, "key"), self.tree, self.move, signed("ann", 9), signed("dan", 1))

    def test_signatures_before_deeds(self):
        self.refused((-1, "key"), self.tree, [("close", "dan")], signed("ann", 9))
        self.refused((-1, "unknown"), self.tree, [("close", "dan")], signed("dan", 9))

    def test_next_locks(self):
        after = self.done(self.tree, self.move, ("ann", ((0, 1, 77), (2, 3, 78))), ("cid", ((0, 4, 79),)))
        self.assertEqual(after["ann"], ((40, 0), noted((77, lock(2), 78), 2)))
        self.assertEqual(after["cid"], ((7, 7), noted((79, 0, 0), 1)))
        self.assertEqual(after["bob"], ((15, 5), noted()))

    def test_next_locks_are_asked_for_in_the_next_group(self):
        tree = self.outcome(self.tree, self.move, signed("ann", 1, 2))[1]
        self.refused((-1, "key"), tree, self.move, signed("ann", 1, 2))
        self.refused((-1, "key"), tree, self.move, signed("ann", 101, 2))
        self.assertEqual(self.worths(tree, self.move, signed("ann", 101, 102))["ann"], (30, 0))
        self.assertEqual(self.worths(tree, self.move, signed("ann", 101, 102, 3))["ann"], (30, 0))

    def test_one_key_opens_two_places(self):
        tree = accounts(ann=((5, 5), locked(1, 1, need=2)))
        self.assertEqual(self.done(tree, [("burn", "ann", 0, 1)], ("ann", ((0, 1, 7), (1, 1, 8))))["ann"],
                         ((4, 5), noted((7, 8, 0), 2)))

    def test_numbers_of_keys(self):
        self.refused((0, "unsigned"), self.tree, self.move, signed("ann", 1))
        self.refused((0, "unsigned"), self.tree, self.move, ("ann", ((2, 3, 5),)))
        self.done(self.tree, self.move, signed("ann", 1, 2))
        self.done(self.tree, self.move, ("ann", ((0, 1, 5), (2, 3, 5))))
        self.done(self.tree, self.move, ("ann", ((1, 2, 5), (2, 3, 5))))
        self.done(self.tree, self.move, signed("ann", 1, 2, 3))

    def test_fewer_keys_than_needed_still_give_next_locks(self):
        after = self.done(self.tree, [BEGIN], signed("ann", 1))
        self.assertEqual(after["ann"], ((50, 0), noted((lock(101), lock(2), lock(3)), 2)))

    def test_keys_where_none_are_needed(self):
        tree = accounts(ann=((5, 5), locked(1, need=0)))
        self.assertEqual(self.done(tree, [("burn", "ann", 0, 1)], signed("ann", 1))["ann"],
                         ((4, 5), locked(101, need=0)))

    def test_refused_group_leaves_no_next_locks(self):
        self.refused((1, "unknown"), self.tree, [*self.move, ("close", "dan")], signed("ann", 1, 2))
        self.done(self.tree, self.move, signed("ann", 1, 2))


class NotesBeforeTest(GroupsTest):
    """Point 83: the notes before the group count for need, limit and hold."""

    def test_need(self):
        tree = accounts(ann=((50, 50), locked(1, 2, need=1)), bob=(5, 5), cid=(5, 5))
        rule = ("rule", "ann", locked(1, 2, need=2))
        self.done(tree, [rule, ("burn", "ann", 0, 1)], signed("ann", 1))
        self.done(tree, [rule, rule], signed("ann", 1))
        tree = accounts(ann=((50, 50), locked(1, 2, need=2)))
        self.refused((0, "unsigned"), tree, [("rule", "ann", noted()), ("burn", "ann", 0, 1)], signed("ann", 1))
        # Without a signature: the need was 0 before the group.
        tree = accounts(ann=(50, 50), bob=(5, 5))
        after = self.done(tree, [("rule", "ann", locked(1)), ("burn", "ann", 0, 1), ("rule", "ann", locked(2))])
        self.assertEqual(after["ann"], ((49, 50), locked(2)))

    def test_limit(self):
        for keys in ((), (1,)):
            signatures = [signed("ann", *keys)] if keys else []
            tree = accounts(ann=((50, 50), locked(1, need=0, limit=5)))
            deeds = [("rule", "ann", noted(limit=0)), ("burn", "ann", 0, 5)]
            self.done(tree, deeds, *signatures)
            self.refused((2, "limit"), tree, [*deeds, ("burn", "ann", 0, 1)], *signatures)
            tree = accounts(ann=((50, 50), locked(1, need=0)))
            self.done(tree, [("rule", "ann", noted(limit=5)), ("burn", "ann", 0, 50)], *signatures)

    def test_hold(self):
        for keys in ((), (1,)):
            signatures = [signed("ann", *keys)] if keys else []
            tree = accounts(ann=((50, 50), locked(1, need=0, hold=(0, 45, EPOCH + 1))))
            deeds = [("rule", "ann", noted()), ("burn", "ann", 0, 5)]
            self.done(tree, deeds, *signatures)
            self.refused((2, "held"), tree, [*deeds, ("burn", "ann", 0, 1)], *signatures)
            tree = accounts(ann=((50, 50), locked(1, need=0)))
            self.done(tree, [("rule", "ann", noted(hold=(0, 45, EPOCH + 1))), ("burn", "ann", 0, 50)], *signatures)

    def test_new_notes_count_in_the_next_group(self):
        tree = accounts(ann=(50, 50))
        after = self.outcome(tree, [("rule", "ann", locked(1, limit=5))])[1]
        self.refused((0, "unsigned"), after, [("burn", "ann", 0, 1)])
        self.refused((0, "limit"), after, [("burn", "ann", 0, 6)], signed("ann", 1))
        self.done(after, [("burn", "ann", 0, 5)], signed("ann", 1))


class SeveralDeedsTest(GroupsTest):
    """Point 83: each deed is done on what the deeds before it left."""

    tree = accounts(ann=(50, 0), bob=(5, 5), mint=(0, 0))

    def test_money_that_came_before(self):
        self.refused((0, "short"), self.tree, [("move", "bob", "ann", 0, 15)])
        deeds = [("move", "ann", "bob", 0, 10), ("move", "bob", "ann", 0, 15), ("move", "ann", "bob", 0, 55)]
        self.assertEqual(self.worths(self.tree, deeds), {"ann": (0, 0), "bob": (55, 5), "mint": (0, 0)})
        self.refused((3, "short"), self.tree, [*deeds, ("burn", "ann", 0, 1)])

    def test_accounts_that_came_and_went_before(self):
        after = self.done(self.tree, [("open", "cid", noted()), ("move", "ann", "cid", 0, 50), ("close", "ann")])
        self.assertEqual(after, {"bob": ((5, 5), noted()), "cid": ((50, 0), noted()), "mint": ((0, 0), noted())})
        self.refused((1, "there"), self.tree, [("open", "cid", noted()), ("open", "cid", noted())])
        self.refused((1, "unknown"), self.tree, [("close", "mint"), ("mint", "ann", 0, 1)])
        self.refused((2, "unknown"), self.tree, [("burn", "ann", 0, 50), ("close", "ann"), ("close", "ann")])

    def test_open_close_open(self):
        deeds = [("open", "cid", locked(1, need=0)), ("close", "cid"), ("open", "cid", locked(2))]
        self.assertEqual(self.done(self.tree, deeds)["cid"], ((0, 0), locked(2)))

    def test_all_accounts_go_and_come(self):
        tree = accounts(ann=(0, 0))
        self.assertEqual(self.outcome(tree, [("close", "ann")]), ("returned", None))
        self.assertEqual(self.outcome(None, [BEGIN]), ("returned", leaf("z", (0, 0), noted())))
        self.assertEqual(self.done(tree, [("close", "ann"), BEGIN]), {"z": ((0, 0), noted())})

    def test_twenty_deeds(self):
        self.assertEqual(self.worths(self.tree, [("burn", "ann", 0, 1)] * 20)["ann"], (30, 0))
        self.refused((19, "short"), self.tree, [("burn", "ann", 0, 1)] * 19 + [("burn", "ann", 0, 32)])


class SignedTest(GroupsTest):
    """Point 84."""

    tree = accounts(ann=((0, 0), locked(1)), bob=((50, 50), locked(2)), cid=(5, 5), bank=((90, 90), locked(3)),
                    mint=((0, 0), locked(4)))
    deeds = {
        "ann": [("close", "ann"), ("rule", "ann", noted())],
        "bob": [("move", "bob", "cid", 0, 1), ("burn", "bob", 0, 1), ("change", "bob", 0, 1, 2),
                ("rule", "bob", noted()), ("move", "bob", "ann", 0, 1)],
        "mint": [("mint", "ann", 0, 1), ("mint", "bob", 1, 1), ("mint", "mint", 0, 1), ("rule", "mint", noted())],
        "bank": [("move", "bank", "cid", 0, 1), ("burn", "bank", 0, 1), ("rule", "bank", noted())],
    }
    keys = {"ann": 1, "bob": 2, "bank": 3, "mint": 4}

    def test_each_deed_with_and_without_its_signature(self):
        for name, deeds in self.deeds.items():
            others = [signed(other, key) for other, key in self.keys.items() if other != name]
            for deed in deeds:
                self.done(self.tree, [deed], signed(name, self.keys[name]))
                self.refused((0, "unsigned"), self.tree, [deed])
                self.refused((0, "unsigned"), self.tree, [deed], *others)
                self.refused((1, "unsigned"), self.tree, [BEGIN, deed], *others)

    def test_need_0_and_no_signature(self):
        tree = accounts(ann=(0, 0), bob=(50, 50), cid=(5, 5), bank=(90, 90), mint=(0, 0))
        for deeds in self.deeds.values():
            for deed in deeds:
                self.done(tree, [deed])

    def test_deeds_that_ask_nobody(self):
        self.done(self.tree, [("open", "dan", noted())])
        self.done(self.tree, [("move", "cid", "bob", 0, 1)])
        self.done(self.tree, [("change", "cid", 0, 1, 2)])
        self.done(self.tree, [("mint", "bob", 0, 1)], signed("mint", 4))

    def test_fee_asks_the_bank_for_nothing(self):
        rules = Rules(2, 1, {})
        self.assertEqual(self.worths(self.tree, [("move", "cid", "ann", 1, 2)], rules=rules)["bank"], (91, 90))


class OpenedTest(GroupsTest):
    """Point 84: accounts that the group opened."""

    tree = accounts(ann=((0, 0), locked(1, 2, need=1, limit=5)), bob=(50, 50), bank=(90, 90))

    def opened(self, notes, *more, name="dan"):
        return [("open", name, notes), ("move", "bob", name, 0, 20), *more]

    def test_need_0(self):
        for deed in (("move", "dan", "bob", 0, 20), ("burn", "dan", 0, 20), ("change", "dan", 0, 1, 20),
                     ("rule", "dan", locked(5))):
            self.done(self.tree, self.opened(noted(), deed))
        self.done(self.tree, [("open", "dan", noted()), ("close", "dan")])

    def test_greater_need(self):
        for notes in (locked(5), locked(5, 6, 7, need=3)):
            for deed in (("move", "dan", "bob", 0, 20), ("burn", "dan", 0, 20), ("change", "dan", 0, 1, 20),
                         ("rule", "dan", noted()), ("close", "dan")):
                self.refused((2, "unsigned"), self.tree, self.opened(notes, deed))
            self.refused((1, "unsigned"), self.tree, [("open", "dan", notes), ("close", "dan")])

    def test_mint_that_was_opened(self):
        deeds = [("open", "mint", noted()), ("mint", "bob", 0, 5)]
        self.assertEqual(self.worths(self.tree, deeds)["bob"], (55, 50))
        self.refused((1, "unsigned"), self.tree, [("open", "mint", locked(5)), ("mint", "bob", 0, 5)])

    def test_after_a_rule(self):
        # What counts is still what the account was opened with.
        self.done(self.tree, self.opened(noted(), ("rule", "dan", locked(5)), ("burn", "dan", 0, 1),
                                         ("rule", "dan", noted())))
        self.refused((3, "limit"), self.tree, self.opened(noted(limit=5), ("rule", "dan", noted()),
                                                          ("burn", "dan", 0, 6)))
        self.done(self.tree, self.opened(noted(limit=5), ("rule", "dan", noted(limit=2)), ("burn", "dan", 0, 5)))
        held = noted(hold=(0, 20, EPOCH + 1))
        self.refused((3, "held"), self.tree, self.opened(held, ("rule", "dan", noted()), ("burn", "dan", 0, 1)))
        self.done(self.tree, self.opened(noted(), ("rule", "dan", held), ("burn", "dan", 0, 20)))

    def test_limit_and_hold(self):
        self.refused((2, "limit"), self.tree, self.opened(noted(limit=5), ("burn", "dan", 0, 6)))
        self.done(self.tree, self.opened(noted(limit=5), ("burn", "dan", 0, 5)))
        held = noted(hold=(0, 15, EPOCH + 1))
        self.refused((2, "held"), self.tree, self.opened(held, ("burn", "dan", 0, 6)))
        self.done(self.tree, self.opened(held, ("burn", "dan", 0, 5)))

    def test_signed_account_that_is_opened_again(self):
        for keys in ((1,), (1, 2)):
            again = [("close", "ann"), ("open", "ann", locked(5)), ("move", "bob", "ann", 0, 20)]
            for deed in (("burn", "ann", 0, 1), ("close", "ann"), ("rule", "ann", noted())):
                self.refused((3, "unsigned"), self.tree, [*again, deed], signed("ann", *keys))
            self.assertEqual(self.done(self.tree, again, signed("ann", *keys))["ann"], ((20, 0), locked(5)))
        # Need, limit and hold are the new ones, too.
        again[1] = ("open", "ann", noted(limit=15, hold=(0, 10, EPOCH + 1)))
        self.done(self.tree, [*again, ("burn", "ann", 0, 10)], signed("ann", 1))
        self.refused((3, "held"), self.tree, [*again, ("burn", "ann", 0, 11)], signed("ann", 1))
        self.refused((3, "limit"), self.tree, [*again, ("burn", "ann", 0, 16)], signed("ann", 1))

    def test_closing_asks_for_the_signature(self):
        self.refused((0, "unsigned"), self.tree, [("close", "ann"), ("open", "ann", noted())])

    def test_account_that_gave_and_is_opened_again(self):
        tree = accounts(ann=((5, 5), noted(limit=5)), bob=(50, 50))
        gone = [("move", "ann", "bob", 0, 5), ("move", "ann", "bob", 1, 5), ("close", "ann")]
        again = [*gone, ("open", "ann", noted(limit=5)), ("move", "bob", "ann", 0, 9), ("move", "bob", "ann", 1, 9)]
        for kind in (0, 1):
            after = self.worths(tree, [*again, ("burn", "ann", kind, 5)])
            self.assertEqual(after["ann"], (4, 9) if kind == 0 else (9, 4))
            self.refused((6, "limit"), tree, [*again, ("burn", "ann", kind, 6)])
            self.refused((7, "limit"), tree, [*again, ("burn", "ann", kind, 5), ("burn", "ann", kind, 1)])

    def test_opened_twice(self):
        twice = [("open", "dan", noted(limit=5)), ("move", "bob", "dan", 0, 5), ("burn", "dan", 0, 5),
                 ("close", "dan"), ("open", "dan", noted(limit=5)), ("move", "bob", "dan", 0, 9)]
        self.assertEqual(self.worths(self.tree, [*twice, ("burn", "dan", 0, 5)])["dan"], (4, 0))
        self.refused((6, "limit"), self.tree, [*twice, ("burn", "dan", 0, 6)])
        twice[4] = ("open", "dan", locked(7))
        self.refused((6, "unsigned"), self.tree, [*twice, ("burn", "dan", 0, 1)])


class NotShownTest(GroupsTest):
    """NotShown with the account that is looked for, and what comes before it."""

    names = ("ann", "bank", "bob", "cid", "mint")
    tree = accounts(ann=(50, 50), bank=(90, 90), bob=(5, 5), cid=((7, 7), locked(4)), mint=(0, 0))
    rules = Rules(2, 1, {(0, 1): (3, 2)})

    def check(self, hidden, deeds, *signatures):
        """The group needs all of the names in this order; it tells the first one that is not shown."""
        for name in hidden:
            shown = prune(SEALER, self.tree, [other for other in self.names if other != name])
            told = self.outcome(shown, deeds, *signatures, rules=self.rules)
            self.assertEqual(told, ("NotShown", {"name": name}), deeds)
        for place, name in enumerate(hidden):
            shown = prune(SEALER, self.tree, hidden[:place])
            told = self.outcome(shown, deeds, *signatures, rules=self.rules)
            self.assertEqual(told, ("NotShown", {"name": name}), deeds)
        shown = prune(SEALER, self.tree, hidden)
        self.assertEqual(self.outcome(shown, deeds, *signatures, rules=self.rules)[0], "returned")

    def test_each_deed(self):
        self.check(["ann"], [("burn", "ann", 0, 1)])
        self.check(["mint"], [("close", "mint")])
        self.check(["ann"], [("rule", "ann", noted())])
        self.check(["ann", "mint"], [("mint", "ann", 0, 1)])
        self.check(["ann", "bank"], [("change", "ann", 0, 1, 2)])
        self.check(["ann", "bob", "bank"], [("move", "ann", "bob", 0, 1)])
        self.check(["ann", "bank"], [("move", "ann", "bank", 0, 1)])
        self.check(["bank", "ann"], [("move", "bank", "ann", 0, 1)])

    def test_open(self):
        # The name goes into the part with ann alone.
        self.check(["ann"], [("burn", "ann", 0, 1), ("open", "ann0", noted())])
        for name in ("ann", "bnn", "bob", "bob0", "cic", "cid"):
            told = self.outcome(cut(self.tree), [("open", name, noted())])
            self.assertEqual(told, ("NotShown", {"name": name}))
        # Beyond the names of the cut, but within the part: putting needs it.
        self.assertEqual(self.outcome(cut(accounts(bob=(5, 5), cid=(7, 7))), [("open", "d", noted())]),
                         ("NotShown", {"name": "d"}))
        self.assertEqual(self.outcome(cut(accounts(bob=(5, 5), bod=(7, 7))), [("open", "d", noted())])[0], "returned")

    def test_signatures(self):
        self.check(["cid", "ann"], [("burn", "ann", 0, 1)], signed("cid", 4))
        self.check(["cid", "ann", "bob", "bank"], [("move", "ann", "bob", 0, 1), ("burn", "cid", 0, 1)],
                   signed("cid", 4))

    def test_later_deeds(self):
        self.check(["bob", "ann"], [("burn", "bob", 0, 1), ("burn", "bob", 0, 1), ("burn", "ann", 0, 1)])

    def test_refusals_before_what_is_not_shown(self):
        shown = prune(SEALER, self.tree, ["bob", "cid"])
        for word, deed in (("same", ("move", "ann", "ann", 0, 1)), ("unsigned", ("close", "cid")),
                           ("money", ("close", "bob")), ("short", ("move", "bob", "cid", 0, 6)),
                           ("there", ("open", "bob", noted())), ("unknown", ("move", "bob0", "ann", 0, 1))):
            self.refused((0, word), shown, [deed, ("burn", "ann", 0, 1)], rules=self.rules)
        self.refused((-1, "key"), shown, [("burn", "ann", 0, 1)], signed("cid", 9), signed("ann", 9))
        self.refused((-1, "unknown"), shown, [("burn", "ann", 0, 1)], signed("bob0", 9), signed("ann", 9))

    def test_invalid_group_before_everything(self):
        group = Group((("burn", "ann", 0, 1), ("burn", "ann", 0, 0)), (signed("ann", 9),), 0)
        for tree in (cut(self.tree), self.tree, None):
            told = outcome(do_group, SEALER, self.rules, EPOCH, tree, group)
            self.assertEqual(told, ("InvalidGroup", {"index_of_deed": 1}))
            told = outcome(do_group, SEALER, self.rules, EPOCH, tree, Group((), (), 0))
            self.assertEqual(told, ("InvalidGroup", {"index_of_deed": -1}))

    def test_what_is_cut_stays_cut(self):
        shown = prune(SEALER, self.tree, ["bob"])
        after = self.outcome(shown, [("burn", "bob", 0, 2)])[1]
        self.assertEqual(after, put(shown, leaf("bob", (3, 5), noted())))
        self.assertEqual(get(after, "bob"), leaf("bob", (3, 5), noted()))
        after = self.outcome(shown, [("burn", "bob", 0, 5), ("burn", "bob", 1, 5), ("close", "bob")])[1]
        self.assertEqual(after, drop(shown, "bob"))


if __name__ == "__main__":
    unittest.main()
