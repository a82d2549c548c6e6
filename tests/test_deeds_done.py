import unittest

from sumgrove.deeds import Rules
from tests.helper import accounts, locked, noted
from tests.test_groups import BEGIN, EPOCH, GroupsTest

MOST = 10 ** 12
RULES = Rules(2, 0, {(0, 1): (3, 2), (1, 0): (1, 4)})
FEE = Rules(2, 3, {(0, 1): (3, 2), (1, 0): (1, 4)})
LIMITED = noted(limit=5)


def held(amount, kind=0, **more):
    """Notes with a hold that counts; with locks if keys are given as `keys`."""
    keys = more.pop("keys", ())
    return locked(*keys, need=len(keys), hold=(kind, amount, EPOCH + 1), **more)


class WordsTest(GroupsTest):
    def check(self, word, deed, rules=RULES, **rows):
        """The deed alone, and as the second one, is refused with the word."""
        tree = accounts(**rows)
        self.refused((0, word), tree, [deed], rules=rules)
        self.refused((1, word), tree, [BEGIN, deed], rules=rules)

    def good(self, deed, rules=RULES, **rows):
        return self.worths(accounts(**rows), [deed], rules=rules)


class OpenCloseTest(WordsTest):
    """Point 85: open, close and rule."""

    def test_open(self):
        after = self.done(accounts(bob=(5, 5)), [("open", "ann", held(7, 1, keys=(4,)))])
        self.assertEqual(after, {"ann": ((0, 0), held(7, 1, keys=(4,))), "bob": ((5, 5), noted())})
        self.check("there", ("open", "ann", noted()), ann=(5, 5))
        self.check("there", ("open", "ann", noted()), ann=((0, 0), locked(1)), bob=(0, 0))

    def test_open_with_each_number_of_kinds(self):
        for kinds in (1, 2, 3):
            after = self.done(None, [("open", "ann", noted())], rules=Rules(kinds, 0, {}))
            self.assertEqual(after, {"ann": ((0,) * kinds, noted())})

    def test_close(self):
        self.assertEqual(self.done(accounts(ann=(0, 0), bob=(5, 5)), [("close", "ann")]), {"bob": ((5, 5), noted())})
        self.check("unknown", ("close", "ann"), bob=(0, 0))
        self.check("unsigned", ("close", "ann"), ann=((0, 0), locked(1)))
        self.check("money", ("close", "ann"), ann=(1, 0))
        self.check("money", ("close", "ann"), ann=(0, 1))

    def test_close_unsigned_before_money(self):
        self.check("unsigned", ("close", "ann"), ann=((1, 0), locked(1)))

    def test_close_asks_for_no_hold(self):
        self.good(("close", "ann"), ann=((0, 0), held(5)))

    def test_rule(self):
        after = self.done(accounts(ann=((5, 6), noted(limit=9))), [("rule", "ann", held(7, 1, keys=(4,)))])
        self.assertEqual(after, {"ann": ((5, 6), held(7, 1, keys=(4,)))})
        self.check("unknown", ("rule", "ann", noted()), bob=(0, 0))
        self.check("unsigned", ("rule", "ann", noted()), ann=((5, 5), locked(1)))

    def test_rule_may_ask_for_more_than_there_is(self):
        self.done(accounts(ann=(5, 5)), [("rule", "ann", held(99))])


class MoveTest(WordsTest):
    """Point 85: move, and what point 86 says of it."""

    deed = ("move", "ann", "bob", 0, 10)

    def test_move(self):
        self.assertEqual(self.good(self.deed, ann=(10, 4), bob=(5, 6)), {"ann": (0, 4), "bob": (15, 6)})
        self.assertEqual(self.good(("move", "bob", "ann", 1, 6), ann=(10, 4), bob=(5, 6)),
                         {"ann": (10, 10), "bob": (5, 0)})
        self.assertEqual(self.good(self.deed, ann=(MOST, 0), bob=(MOST - 10, 0)), {"ann": (MOST - 10, 0),
                                                                                  "bob": (MOST, 0)})

    def test_each_word_alone(self):
        self.check("same", ("move", "ann", "ann", 0, 10), ann=(50, 0))
        self.check("unknown", self.deed, bob=(0, 0))
        self.check("unknown", self.deed, ann=(50, 0))
        self.check("unsigned", self.deed, ann=((50, 0), locked(1)), bob=(0, 0))
        self.check("short", self.deed, ann=(9, 99), bob=(99, 99))
        self.check("limit", self.deed, ann=((50, 0), LIMITED), bob=(0, 0))
        self.check("held", self.deed, ann=((50, 0), held(41)), bob=(0, 0))
        self.check("much", self.deed, ann=(50, 0), bob=(MOST - 9, 0))

    def test_same_before_all_others(self):
        deed = ("move", "ann", "ann", 0, 10)
        self.check("same", deed, bob=(0, 0))
        for row in (((50, 0), locked(1)), (9, 0), ((50, 0), LIMITED), ((50, 0), held(41)), (MOST, 0)):
            self.check("same", deed, ann=row)
        self.check("same", ("move", "ann", "ann", 0, MOST), ann=(MOST, 0))
        self.check("same", ("move", "bank", "bank", 0, 10), FEE, bank=(50, 0))

    def test_unknown_before_unsigned_and_short(self):
        self.check("unknown", self.deed, cid=(0, 0))
        for row in (((50, 0), locked(1)), (9, 0), ((50, 0), LIMITED), ((50, 0), held(41))):
            self.check("unknown", self.deed, ann=row)
            self.check("unknown", self.deed, FEE, ann=row)

    def test_unsigned_before_the_giving(self):
        self.check("unsigned", self.deed, ann=((9, 0), locked(1)), bob=(0, 0))
        self.check("unsigned", self.deed, ann=((50, 0), locked(1, limit=5)), bob=(0, 0))
        self.check("unsigned", self.deed, ann=((50, 0), held(41, keys=(1,))), bob=(0, 0))
        self.check("unsigned", self.deed, ann=((50, 0), locked(1)), bob=(MOST, 0))

    def test_short_limit_held_much(self):
        most = (MOST, 0)
        self.check("short", self.deed, ann=((9, 0), LIMITED), bob=(0, 0))
        self.check("short", self.deed, ann=((9, 0), held(9)), bob=(0, 0))
        self.check("short", self.deed, ann=(9, 0), bob=most)
        self.check("limit", self.deed, ann=((50, 0), held(41, limit=5)), bob=(0, 0))
        self.check("limit", self.deed, ann=((50, 0), LIMITED), bob=most)
        self.check("held", self.deed, ann=((50, 0), held(41)), bob=most)

    def test_bounds(self):
        self.good(self.deed, ann=((50, 0), noted(limit=10)), bob=(0, 0))
        self.good(self.deed, ann=((50, 0), held(40)), bob=(0, 0))
        self.good(self.deed, ann=(10, 0), bob=(MOST - 10, MOST))


class FeeTest(WordsTest):
    """Point 85: the fee."""

    deed = ("move", "ann", "bob", 0, 10)

    def test_fee(self):
        self.assertEqual(self.good(self.deed, FEE, ann=(13, 4), bob=(5, 6), bank=(1, 1)),
                         {"ann": (0, 4), "bob": (15, 6), "bank": (4, 1)})
        # The fee is of the kind 0, whatever is moved.
        self.assertEqual(self.good(("move", "ann", "bob", 1, 4), FEE, ann=(13, 4), bob=(5, 6), bank=(1, 1)),
                         {"ann": (10, 0), "bob": (5, 10), "bank": (4, 1)})

    def test_bank_as_giver_and_taker(self):
        for bank, other in (("bank", "bob"), ("ann", "bank")):
            after = self.good(("move", bank, other, 0, 10), FEE, **{bank: (10, 0), other: (5, 0)})
            self.assertEqual(after, {bank: (0, 0), other: (15, 0)})

    def test_no_bank(self):
        self.check("unknown", self.deed, FEE, ann=(13, 0), bob=(0, 0))
        self.check("unknown", self.deed, FEE, ann=(10, 0), bob=(0, 0))
        self.assertEqual(self.good(self.deed, ann=(13, 0), bob=(0, 0)), {"ann": (3, 0), "bob": (10, 0)})

    def test_fee_of_0(self):
        self.assertEqual(self.good(self.deed, ann=(10, 0), bob=(0, 0), bank=(1, 1)),
                         {"ann": (0, 0), "bob": (10, 0), "bank": (1, 1)})
        self.assertEqual(self.good(self.deed, ann=((10, 0), noted(limit=10)), bob=(0, 0), bank=(MOST, MOST)),
                         {"ann": (0, 0), "bob": (10, 0), "bank": (MOST, MOST)})

    def test_only_moves_have_a_fee(self):
        rows = {"ann": (20, 0), "bob": (0, 0), "bank": (100, 100), "mint": (0, 0)}
        self.assertEqual(self.good(("burn", "ann", 0, 10), FEE, **rows)["bank"], (100, 100))
        self.assertEqual(self.good(("mint", "ann", 0, 10), FEE, **rows)["bank"], (100, 100))
        self.assertEqual(self.good(("change", "ann", 0, 1, 10), FEE, **rows)["bank"], (110, 85))

    def test_words_of_the_fee(self):
        bob, bank = (0, 0), (1, 1)
        self.check("short", self.deed, FEE, ann=(12, 9), bob=bob, bank=bank)
        self.check("short", ("move", "ann", "bob", 1, 9), FEE, ann=(2, 9), bob=bob, bank=bank)
        self.check("limit", self.deed, FEE, ann=((50, 0), noted(limit=12)), bob=bob, bank=bank)
        self.check("held", self.deed, FEE, ann=((50, 0), held(38)), bob=bob, bank=bank)
        self.check("held", ("move", "ann", "bob", 1, 1), FEE, ann=((50, 1), held(48)), bob=bob, bank=bank)
        self.check("much", self.deed, FEE, ann=(50, 0), bob=bob, bank=(MOST - 2, 0))
        self.good(self.deed, FEE, ann=((50, 0), noted(limit=13)), bob=bob, bank=bank)
        self.good(self.deed, FEE, ann=((50, 0), held(37)), bob=bob, bank=bank)
        self.good(self.deed, FEE, ann=(13, 0), bob=bob, bank=(MOST - 3, 0))

    def test_limit_of_the_fee_counts_its_own_kind(self):
        self.good(("move", "ann", "bob", 1, 10), FEE, ann=((3, 10), noted(limit=10)), bob=(0, 0), bank=(1, 1))

    def test_moving_before_the_fee(self):
        for word, ann, bob in (("short", (9, 0), (0, 0)), ("limit", ((50, 0), LIMITED), (0, 0)),
                               ("held", ((50, 0), held(41)), (0, 0)), ("much", (50, 0), (MOST, 0)),
                               ("unsigned", ((50, 0), locked(1)), (0, 0))):
            self.check(word, self.deed, FEE, ann=ann, bob=bob)
            self.check(word, self.deed, FEE, ann=ann, bob=bob, bank=(MOST, 0))

    def test_order_of_the_words_of_the_fee(self):
        bob, most = (0, 0), (MOST, 0)
        self.check("unknown", self.deed, FEE, ann=((10, 0), noted(limit=12)), bob=bob)
        self.check("short", self.deed, FEE, ann=((12, 0), noted(limit=12)), bob=bob, bank=most)
        self.check("short", self.deed, FEE, ann=((12, 0), held(2)), bob=bob, bank=most)
        self.check("limit", self.deed, FEE, ann=((50, 0), held(38, limit=12)), bob=bob, bank=most)
        self.check("held", self.deed, FEE, ann=((50, 0), held(38)), bob=bob, bank=most)


class MintBurnTest(WordsTest):
    """Point 85: mint and burn, and what point 86 says of burning."""

    mint = ("mint", "ann", 0, 10)
    burn = ("burn", "ann", 0, 10)

    def test_mint(self):
        self.assertEqual(self.good(self.mint, ann=(1, 2), mint=(0, 0)), {"ann": (11, 2), "mint": (0, 0)})
        self.assertEqual(self.good(("mint", "mint", 1, 10), mint=(0, 1)), {"mint": (0, 11)})
        self.assertEqual(self.good(self.mint, ann=(MOST - 10, MOST), mint=(0, 0))["ann"], (MOST, MOST))
        # Neither the limit of mint nor a hold counts for minting.
        self.good(self.mint, ann=((0, 0), held(99, limit=5)), mint=((0, 0), held(99, limit=5)))

    def test_words_of_mint(self):
        self.check("unknown", self.mint, mint=(0, 0))
        self.check("unknown", self.mint, ann=(0, 0))
        self.check("unsigned", self.mint, ann=(0, 0), mint=((0, 0), locked(1)))
        self.check("much", self.mint, ann=(MOST - 9, 0), mint=(0, 0))

    def test_order_of_the_words_of_mint(self):
        self.check("unknown", self.mint, mint=((0, 0), locked(1)))
        self.check("unknown", self.mint, ann=(MOST, 0))
        self.check("unsigned", self.mint, ann=(MOST, 0), mint=((0, 0), locked(1)))

    def test_burn(self):
        self.assertEqual(self.good(self.burn, ann=(11, 2), bob=(3, 3)), {"ann": (1, 2), "bob": (3, 3)})
        self.assertEqual(self.good(("burn", "ann", 1, 2), ann=(11, 2)), {"ann": (11, 0)})

    def test_words_of_burn(self):
        self.check("unknown", self.burn, bob=(50, 50))
        self.check("unsigned", self.burn, ann=((50, 0), locked(1)))
        self.check("short", self.burn, ann=(9, 99))
        self.check("limit", self.burn, ann=((50, 0), LIMITED))
        self.check("held", self.burn, ann=((50, 0), held(41)))

    def test_order_of_the_words_of_burn(self):
        self.check("unsigned", self.burn, ann=((9, 0), locked(1)))
        self.check("unsigned", self.burn, ann=((50, 0), locked(1, limit=5)))
        self.check("unsigned", self.burn, ann=((50, 0), held(41, keys=(1,))))
        self.check("short", self.burn, ann=((9, 0), LIMITED))
        self.check("short", self.burn, ann=((9, 0), held(9)))
        self.check("limit", self.burn, ann=((50, 0), held(41, limit=5)))


class ChangeTest(WordsTest):
    """Point 85: change, and what point 86 says of it."""

    # 10 of the kind 0 become 15 of the kind 1.
    deed = ("change", "ann", 0, 1, 10)
    bank = (50, 50)

    def test_change(self):
        self.assertEqual(self.good(self.deed, ann=(10, 2), bank=(50, 15)), {"ann": (0, 17), "bank": (60, 0)})

    def test_rounding_down(self):
        for amount, result in ((4, 1), (7, 1), (8, 2), (11, 2), (12, 3)):
            self.assertEqual(self.good(("change", "ann", 1, 0, amount), ann=(0, 20), bank=(50, 0)),
                             {"ann": (result, 20 - amount), "bank": (50 - result, amount)})
        for amount in (1, 2, 3):
            self.check("little", ("change", "ann", 1, 0, amount), ann=(0, 20), bank=(50, 0))
        for amount, result in ((1, 1), (2, 3), (3, 4), (5, 7)):
            self.assertEqual(self.good(("change", "ann", 0, 1, amount), ann=(20, 0), bank=(0, 50))["ann"],
                             (20 - amount, result))

    def test_each_word_alone(self):
        self.check("unknown", self.deed, bank=self.bank)
        self.check("unknown", self.deed, ann=(50, 0))
        self.check("same", ("change", "bank", 0, 1, 10), bank=self.bank)
        self.check("rate", ("change", "ann", 0, 0, 10), ann=(50, 0), bank=self.bank)
        self.check("rate", self.deed, Rules(2, 0, {}), ann=(50, 0), bank=self.bank)
        self.check("rate", self.deed, Rules(2, 0, {(1, 0): (3, 2)}), ann=(50, 0), bank=self.bank)
        self.check("unsigned", self.deed, ann=((50, 0), locked(1)), bank=self.bank)
        self.check("little", ("change", "ann", 1, 0, 3), ann=(50, 50), bank=self.bank)
        self.check("short", self.deed, ann=(9, 50), bank=self.bank)
        self.check("limit", self.deed, ann=((50, 0), LIMITED), bank=self.bank)
        self.check("held", self.deed, ann=((50, 0), held(41)), bank=self.bank)
        self.check("much", self.deed, ann=(50, 0), bank=(MOST - 9, 50))

    def test_words_of_the_bank(self):
        self.check("short", self.deed, ann=(50, 0), bank=(50, 14))
        self.check("held", self.deed, ann=(50, 0), bank=((50, 50), held(36, 1)))
        self.check("held", self.deed, ann=(50, 0), bank=((50, 50), held(61, 0)))
        self.check("much", self.deed, ann=(50, MOST - 14), bank=self.bank)
        self.good(self.deed, ann=(50, 0), bank=(50, 15))
        self.good(self.deed, ann=(50, 0), bank=((50, 50), held(35, 1)))
        # What the bank has taken before counts for its hold.
        self.good(self.deed, ann=(50, 0), bank=((50, 50), held(60, 0)))
        self.good(self.deed, ann=(50, MOST - 15), bank=self.bank)

    def test_bank_gives_without_limit_and_signature(self):
        self.good(self.deed, ann=(50, 0), bank=((50, 50), locked(1, limit=1)))
        self.assertEqual(self.worths(accounts(ann=(50, 0), bank=((50, 50), noted(limit=20))),
                                     [self.deed, self.deed, ("move", "bank", "ann", 1, 20)])["ann"], (30, 50))
        self.refused((1, "limit"), accounts(ann=(50, 0), bank=((50, 50), noted(limit=20))),
                     [self.deed, ("move", "bank", "ann", 1, 21)])

    def test_bank_that_gave_to_its_limit(self):
        tree = accounts(ann=(50, 0), bank=((50, 50), noted(limit=20)))
        self.worths(tree, [("move", "bank", "ann", 1, 20), self.deed])
        self.refused((2, "limit"), tree, [("move", "bank", "ann", 1, 20), self.deed, ("move", "bank", "ann", 1, 1)])

    def test_unknown_before_all_others(self):
        self.check("unknown", self.deed, bob=(0, 0))
        self.check("unknown", ("change", "bank", 0, 1, 10), ann=(50, 0))
        self.check("unknown", ("change", "bank", 0, 0, 10), ann=(50, 0))
        for deed in (self.deed, ("change", "ann", 0, 0, 10), ("change", "ann", 1, 0, 3)):
            self.check("unknown", deed, bank=(0, 0))
            for row in ((50, 50), ((50, 50), locked(1)), (0, 0), ((50, 50), held(99, limit=1))):
                self.check("unknown", deed, ann=row)

    def test_same_before_rate_unsigned_and_little(self):
        self.check("same", ("change", "bank", 0, 0, 10), bank=self.bank)
        self.check("same", ("change", "bank", 0, 1, 10), bank=((50, 50), locked(1)))
        self.check("same", ("change", "bank", 1, 0, 3), bank=self.bank)
        self.check("same", ("change", "bank", 0, 1, 10), bank=(0, 0))
        self.check("same", ("change", "bank", 0, 1, 10), bank=((50, 50), held(99, limit=1)))

    def test_rate_before_unsigned_and_the_giving(self):
        for row in (((50, 0), locked(1)), (0, 0), ((50, 0), held(99, limit=1))):
            self.check("rate", ("change", "ann", 0, 0, 10), ann=row, bank=self.bank)
            self.check("rate", self.deed, Rules(2, 0, {}), ann=row, bank=self.bank)

    def test_unsigned_before_little_and_the_giving(self):
        self.check("unsigned", ("change", "ann", 1, 0, 3), ann=((50, 50), locked(1)), bank=self.bank)
        self.check("unsigned", self.deed, ann=((9, 0), locked(1)), bank=self.bank)
        self.check("unsigned", self.deed, ann=((50, 0), held(99, keys=(1,), limit=1)), bank=(MOST, 0))

    def test_little_before_the_giving(self):
        deed = ("change", "ann", 1, 0, 3)
        self.check("little", deed, ann=(0, 2), bank=self.bank)
        self.check("little", deed, ann=((0, 50), noted(limit=2)), bank=self.bank)
        self.check("little", deed, ann=((0, 50), held(99)), bank=self.bank)
        self.check("little", deed, ann=(0, 50), bank=(0, MOST))
        self.check("little", deed, ann=(MOST, 50), bank=((0, 0), held(99)))

    def test_giving_in_order(self):
        most = (MOST, 0)
        self.check("short", self.deed, ann=((9, 0), LIMITED), bank=self.bank)
        self.check("short", self.deed, ann=((9, 0), held(9)), bank=self.bank)
        self.check("short", self.deed, ann=(9, 0), bank=most)
        self.check("limit", self.deed, ann=((50, 0), held(41, limit=5)), bank=most)
        self.check("limit", self.deed, ann=((50, 0), LIMITED), bank=most)
        self.check("limit", self.deed, ann=((50, 0), LIMITED), bank=(0, 0))
        self.check("held", self.deed, ann=((50, 0), held(41)), bank=most)
        self.check("held", self.deed, ann=((50, 0), held(41)), bank=(0, 0))
        self.check("much", self.deed, ann=(50, 0), bank=most)
        self.check("much", self.deed, ann=(50, 0), bank=((MOST, 50), held(36, 1)))
        self.check("much", self.deed, ann=(50, MOST), bank=(MOST, 50))

    def test_bank_giving_in_order(self):
        self.check("short", self.deed, ann=(50, 0), bank=((50, 14), held(1, 1)))
        self.check("short", self.deed, ann=(50, MOST), bank=(50, 14))
        self.check("held", self.deed, ann=(50, MOST), bank=((50, 50), held(36, 1)))

    def test_hold_of_the_account_before_it_takes(self):
        # The account gives first; what it gets back does not count for its hold.
        self.check("held", self.deed, ann=((50, 0), held(15, 1)), bank=self.bank)
        self.good(self.deed, ann=((50, 15), held(15, 1)), bank=self.bank)


class LimitsAndHoldsTest(WordsTest):
    """Point 86."""

    def test_limit_over_several_deeds(self):
        tree = accounts(ann=((90, 90), noted(limit=10)), bob=(0, 0), bank=(50, 50))
        deeds = [("move", "ann", "bob", 0, 4), ("burn", "ann", 0, 3), ("change", "ann", 0, 1, 2)]
        self.worths(tree, [*deeds, ("move", "ann", "bob", 0, 1)])
        self.refused((3, "limit"), tree, [*deeds, ("move", "ann", "bob", 0, 2)])
        self.refused((3, "limit"), tree, [*deeds, ("burn", "ann", 0, 2)])
        self.refused((4, "limit"), tree, [*deeds, ("burn", "ann", 0, 1), ("change", "ann", 0, 1, 1)])

    def test_limit_of_two_kinds(self):
        tree = accounts(ann=((90, 90), noted(limit=10)), bob=(0, 0))
        deeds = [("burn", "ann", 0, 10), ("move", "ann", "bob", 1, 6), ("burn", "ann", 1, 4)]
        self.assertEqual(self.worths(tree, deeds)["ann"], (80, 80))
        for kind in (0, 1):
            self.refused((3, "limit"), tree, [*deeds, ("burn", "ann", kind, 1)])

    def test_limit_with_fees(self):
        tree = accounts(ann=((90, 90), noted(limit=10)), bob=(0, 0), bank=(0, 0))
        self.worths(tree, [("move", "ann", "bob", 1, 1), ("move", "ann", "bob", 0, 4)], rules=FEE)
        self.refused((1, "limit"), tree, [("move", "ann", "bob", 1, 1), ("move", "ann", "bob", 0, 5)], rules=FEE)
        self.refused((3, "limit"), tree, [("move", "ann", "bob", 1, 1)] * 4, rules=FEE)

    def test_limits_of_two_accounts(self):
        tree = accounts(ann=((90, 90), noted(limit=10)), bob=((90, 90), noted(limit=10)))
        self.worths(tree, [("burn", "ann", 0, 10), ("burn", "bob", 0, 10)])

    def test_what_comes_back_does_not_count(self):
        tree = accounts(ann=((90, 90), noted(limit=10)), bob=(50, 50))
        deeds = [("move", "ann", "bob", 0, 10), ("move", "bob", "ann", 0, 10), ("move", "ann", "bob", 0, 1)]
        self.refused((2, "limit"), tree, deeds)

    def test_limit_of_1(self):
        self.good(("burn", "ann", 0, 1), ann=((9, 0), noted(limit=1)))
        self.check("limit", ("burn", "ann", 0, 2), ann=((9, 0), noted(limit=1)))

    def test_limit_of_0(self):
        self.good(("burn", "ann", 0, MOST), ann=((MOST, 0), noted(limit=0)))

    def test_limit_in_each_group_anew(self):
        tree = accounts(ann=((90, 90), noted(limit=10)))
        after = self.outcome(tree, [("burn", "ann", 0, 10)])[1]
        self.worths(after, [("burn", "ann", 0, 10)])

    def test_hold_in_its_epoch_and_before(self):
        deed = ("burn", "ann", 0, 1)
        for epoch, word in ((EPOCH - 1, None), (EPOCH, None), (EPOCH + 1, "held"), (10 ** 6, "held")):
            row = ((50, 0), noted(hold=(0, 50, epoch)))
            if word is None:
                self.assertEqual(self.good(deed, ann=row)["ann"], (49, 0))
            else:
                self.check(word, deed, ann=row)

    def test_hold_of_another_kind(self):
        # The hold is not kept before, either; it is asked for whatever kind is given.
        self.check("held", ("burn", "ann", 0, 1), ann=((50, 4), held(5, 1)))
        self.good(("burn", "ann", 0, 50), ann=((50, 5), held(5, 1)))
        self.check("held", ("burn", "ann", 1, 1), ann=((50, 5), held(5, 1)))

    def test_taking_asks_for_no_hold(self):
        self.good(("move", "bob", "ann", 0, 1), ann=((0, 0), held(9, limit=1)), bob=(5, 5))

    def test_hold_of_the_bank_as_giver_of_a_move(self):
        bank = ((50, 50), held(41, limit=20))
        self.check("held", ("move", "bank", "ann", 0, 10), FEE, ann=(0, 0), bank=bank)
        self.check("limit", ("move", "bank", "ann", 0, 21), FEE, ann=(0, 0), bank=bank)
        self.good(("move", "bank", "ann", 0, 9), FEE, ann=(0, 0), bank=bank)


if __name__ == "__main__":
    unittest.main()
