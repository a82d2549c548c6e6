import unittest

from sumgrove.deeds import Group, Rules, check_group, group_names, minted
from sumgrove.refusals import InvalidRules
from sumgrove.seals import Sealer
from tests.helper import noted, outcome

SEALER = Sealer(101)
RULES = Rules(2, 1, {(0, 1): (2, 3)})
NOTES = noted((5, 6, 0), 2, 50, (1, 20, 9))
AMOUNT = 10 ** 12
SIGNATURE = ("ann", ((0, 5, 7),))
CLOSE = ("close", "ann")

# One right deed of each word; the kinds are 0 and 1.
DEEDS = {
    "open": ("open", "ann", NOTES),
    "close": ("close", "ann"),
    "move": ("move", "ann", "bob", 1, 5),
    "mint": ("mint", "ann", 0, 5),
    "burn": ("burn", "ann", 1, 5),
    "change": ("change", "ann", 0, 1, 5),
    "rule": ("rule", "ann", NOTES),
}
NAME_PLACES = {"open": (1,), "close": (1,), "move": (1, 2), "mint": (1,), "burn": (1,), "change": (1,), "rule": (1,)}
KIND_PLACES = {"move": (3,), "mint": (2,), "burn": (2,), "change": (2, 3)}


def with_item(deed, place, item):
    return (*deed[:place], item, *deed[place + 1:])


class RulesTest(unittest.TestCase):
    """Point 80."""

    def bad(self, *arguments):
        with self.assertRaises(InvalidRules):
            Rules(*arguments)

    def test_attributes(self):
        rules = Rules(3, 7, {(0, 2): (1, 1000), (2, 0): (1000, 1)})
        self.assertEqual((rules.kinds, rules.fee, rules.rates), (3, 7, {(0, 2): (1, 1000), (2, 0): (1000, 1)}))
        self.assertEqual(set(vars(rules)), {"kinds", "fee", "rates"})

    def test_kinds(self):
        for kinds in (1, 2, 3):
            self.assertEqual(Rules(kinds, 0, {}).kinds, kinds)
        for kinds in (-1, 0, 4):
            self.bad(kinds, 0, {})

    def test_fee(self):
        for fee in (0, 1, 1000):
            self.assertEqual(Rules(1, fee, {}).fee, fee)
        for fee in (-1, 1001):
            self.bad(1, fee, {})

    def test_pairs_of_the_rates(self):
        for kinds in (1, 2, 3):
            for given in range(-1, kinds + 1):
                for taken in range(-1, kinds + 1):
                    rates = {(given, taken): (2, 3)}
                    if given != taken and 0 <= given < kinds and 0 <= taken < kinds:
                        self.assertEqual(Rules(kinds, 0, rates).rates, rates)
                    else:
                        self.bad(kinds, 0, rates)

    def test_numbers_of_the_rates(self):
        for rate in ((1, 1), (1000, 1000), (1, 1000), (1000, 1)):
            self.assertEqual(Rules(2, 0, {(0, 1): rate}).rates, {(0, 1): rate})
        for rate in ((0, 1), (1, 0), (-1, 1), (1, -1), (1001, 1), (1, 1001)):
            self.bad(2, 0, {(0, 1): rate})

    def test_lengths_of_the_rates(self):
        for rates in ({(0, 1, 2): (1, 1)}, {(0,): (1, 1)}, {(0, 1): (1, 1, 1)}, {(0, 1): (1,)}, {(0, 1): ()}):
            self.bad(3, 0, rates)

    def test_each_rate(self):
        good = {(0, 1): (1, 1), (1, 0): (1, 1), (0, 2): (1, 1), (2, 0): (1, 1)}
        self.assertEqual(Rules(3, 0, good).rates, good)
        for pair in good:
            self.bad(3, 0, {**good, pair: (0, 1)})
        self.bad(3, 0, {**good, (1, 3): (1, 1)})
        self.bad(3, 0, {(1, 3): (1, 1), **good})

    def test_what_is_passed_is_copied(self):
        rates = {(0, 1): (2, 3)}
        rules = Rules(2, 1, rates)
        rates[(1, 0)] = (4, 5)
        del rates[(0, 1)]
        self.assertEqual(rules.rates, {(0, 1): (2, 3)})

    def test_what_is_passed_stays(self):
        rates = {(0, 1): (2, 3), (1, 0): (4, 5)}
        Rules(2, 1, rates)
        self.assertEqual(rates, {(0, 1): (2, 3), (1, 0): (4, 5)})


class GroupTest(unittest.TestCase):
    def test_attributes(self):
        group = Group((CLOSE,), (SIGNATURE,), 4)
        self.assertEqual((group.deeds, group.signatures, group.epoch), ((CLOSE,), (SIGNATURE,), 4))
        self.assertEqual(set(vars(group)), {"deeds", "signatures", "epoch"})

    def test_equal_groups(self):
        self.assertTrue(Group((CLOSE,), (SIGNATURE,), 4) == Group((("close", "ann"),), (("ann", ((0, 5, 7),)),), 4))
        self.assertFalse(Group((CLOSE,), (SIGNATURE,), 4) != Group((CLOSE,), (SIGNATURE,), 4))
        self.assertTrue(Group((), (), 0) == Group((), (), 0))

    def test_groups_that_differ_in_one_attribute(self):
        group = Group((CLOSE,), (SIGNATURE,), 4)
        for other in (Group((CLOSE, CLOSE), (SIGNATURE,), 4), Group((("close", "bob"),), (SIGNATURE,), 4),
                      Group((CLOSE,), (), 4), Group((CLOSE,), (("ann", ((0, 5, 8),)),), 4),
                      Group((CLOSE,), (SIGNATURE,), 5)):
            self.assertTrue(group != other)
            self.assertFalse(group == other)

    def test_other_values_are_not_equal(self):
        group = Group((CLOSE,), (SIGNATURE,), 4)
        for other in (None, 4, ((CLOSE,), (SIGNATURE,), 4)):
            self.assertFalse(group == other)


class CheckTest(unittest.TestCase):
    def good(self, deeds, signatures=(), epoch=0, sealer=SEALER, rules=RULES):
        self.assertIsNone(check_group(sealer, rules, Group(deeds, signatures, epoch)))

    def bad(self, index, deeds, signatures=(), epoch=0, sealer=SEALER, rules=RULES):
        told = outcome(check_group, sealer, rules, Group(deeds, signatures, epoch))
        self.assertEqual(told, ("InvalidGroup", {"index_of_deed": index}), (deeds, signatures, epoch))

    def bad_deed(self, deed, **more):
        """A deed that is wrong alone, behind others and before others; the first wrong one is told."""
        self.bad(0, (deed,), **more)
        self.bad(1, (CLOSE, deed, CLOSE), **more)
        self.bad(1, (CLOSE, deed, deed, ("what",)), **more)


class DeedsTest(CheckTest):
    """Point 81."""

    def test_each_deed(self):
        for deed in DEEDS.values():
            self.good((deed,))
        self.good(tuple(DEEDS.values()), (SIGNATURE,), 7)

    def test_items_more_and_less(self):
        for deed in DEEDS.values():
            for less in range(1, len(deed)):
                self.bad_deed(deed[:less])
            for more in (5, "ann", NOTES, ()):
                self.bad_deed((*deed, more))

    def test_words(self):
        for word in ("", "what", "Open", "opens", "open ", "end", "fee", "give"):
            for deed in DEEDS.values():
                self.bad_deed((word, *deed[1:]))

    def test_forms_of_other_words(self):
        # Words with the same form of items; all others are wrong with each other's items.
        like = {"open": "or", "rule": "or", "mint": "mb", "burn": "mb"}
        for word, deed in DEEDS.items():
            for other in DEEDS:
                if like.get(word, word) == like.get(other, other):
                    self.good(((other, *deed[1:]),))
                else:
                    self.bad_deed((other, *deed[1:]))

    def test_names(self):
        for word, places in NAME_PLACES.items():
            for place in places:
                for name in ("a", "zzzzzzzz", "0", "_", "bank", "mint"):
                    self.good((with_item(DEEDS[word], place, name),))
                for name in ("", "abcdefghi", "Ann", "a b", "a-b", "\u00e4", 5, 0, (), (1,)):
                    self.bad_deed(with_item(DEEDS[word], place, name))

    def test_kinds(self):
        for word, places in KIND_PLACES.items():
            for place in places:
                for rules in (Rules(1, 0, {}), Rules(2, 0, {}), Rules(3, 0, {})):
                    deed = DEEDS[word]
                    for other in places + ((3,) if word == "move" else ()):
                        deed = with_item(deed, other, 0)
                    for kind in range(rules.kinds):
                        self.good((with_item(deed, place, kind),), rules=rules)
                    for kind in (-1, rules.kinds, "ann", "", "0", (), (0,)):
                        self.bad_deed(with_item(deed, place, kind), rules=rules)

    def test_amounts(self):
        for word in KIND_PLACES:
            deed = DEEDS[word]
            for amount in (1, AMOUNT):
                self.good(((*deed[:-1], amount),))
            for amount in (0, -1, AMOUNT + 1, "ann", "5", (), (5,)):
                self.bad(0, ((*deed[:-1], amount),))
                self.bad(1, (CLOSE, (*deed[:-1], amount)))

    def test_notes(self):
        for word in ("open", "rule"):
            for notes in (noted(), noted((101, 0, 0), 1), noted((1, 2, 3), 3, AMOUNT, (1, AMOUNT, 10 ** 6))):
                self.good(((word, "ann", notes),))
            for notes in ((), (0,) * 7, (0,) * 9, noted(need=1), noted((102, 0, 0)), noted(limit=AMOUNT + 1),
                          noted(hold=(2, 0, 0)), noted(hold=(0, 0, 10 ** 6 + 1)), "ann", "", 5, 0):
                self.bad_deed((word, "ann", notes))

    def test_notes_for_the_kinds_and_the_modulus(self):
        self.bad_deed(("open", "ann", noted(hold=(1, 0, 0))), rules=Rules(1, 0, {}))
        self.good((("open", "ann", noted((102, 0, 0))),), sealer=Sealer(103))

    def test_forms_that_are_valid_and_refused_later(self):
        self.good((("move", "ann", "ann", 0, 5),))
        self.good((("change", "ann", 1, 1, 5), ("change", "bank", 1, 0, 5)))

    def test_number_of_deeds(self):
        self.bad(-1, ())
        self.good((CLOSE,))
        self.good((CLOSE,) * 20)
        self.bad(-1, (CLOSE,) * 21)
        self.bad(-1, (), (SIGNATURE,))

    def test_deeds_before_their_number(self):
        self.bad(20, (CLOSE,) * 20 + (("what",),))
        self.bad(24, (CLOSE,) * 24 + (("what",), CLOSE))


class SignaturesTest(CheckTest):
    """Point 82 and the epoch of point 81; the index is -1."""

    def good_keys(self, *keys):
        self.good((CLOSE,), (("ann", keys),))
        self.good((CLOSE,), (("bob", ((0, 5, 7),)), ("ann", keys)))

    def bad_signature(self, signature, sealer=SEALER):
        self.bad(-1, (CLOSE,), (signature,), sealer=sealer)
        self.bad(-1, (CLOSE,), (("cid", ((0, 5, 7),)), signature, ("bob", ((0, 5, 7),))), sealer=sealer)
        # The deeds are looked at first.
        self.bad(0, (("what",),), (signature,), sealer=sealer)
        self.bad(2, (CLOSE, CLOSE, ("what",)), (signature,), sealer=sealer)

    def bad_keys(self, *keys):
        self.bad_signature(("ann", keys))

    def test_no_signatures_and_many(self):
        self.good((CLOSE,), ())
        self.good((CLOSE,), tuple((f"a{n}", ((0, 5, 7),)) for n in range(30)))

    def test_names(self):
        for name in ("a", "zzzzzzzz", "bank", "mint"):
            self.good((CLOSE,), ((name, ((0, 5, 7),)),))
        for name in ("", "abcdefghi", "Ann", "a b", "\u00e4"):
            self.bad_signature((name, ((0, 5, 7),)))

    def test_two_signatures_of_one_name(self):
        self.good((CLOSE,), (("ann", ((0, 5, 7),)), ("bob", ((0, 5, 7),))))
        self.bad(-1, (CLOSE,), (("ann", ((0, 5, 7),)), ("ann", ((0, 5, 7),))))
        self.bad(-1, (CLOSE,), (("ann", ((0, 5, 7),)), ("bob", ((0, 5, 7),)), ("ann", ((1, 6, 8),))))
        self.bad(0, (("what",),), (("ann", ((0, 5, 7),)), ("ann", ((0, 5, 7),))))

    def test_number_of_keys(self):
        self.bad_keys()
        self.good_keys((0, 5, 7))
        self.good_keys((0, 5, 7), (1, 5, 7))
        self.good_keys((0, 5, 7), (1, 5, 7), (2, 5, 7))
        self.bad_keys((0, 5, 7), (1, 5, 7), (2, 5, 7), (3, 5, 7))
        self.bad_keys((0, 5, 7), (1, 5, 7), (2, 5, 7), (2, 5, 7))

    def test_places(self):
        for places in ((0,), (1,), (2,), (0, 1), (0, 2), (1, 2), (0, 1, 2)):
            self.good_keys(*[(place, 5, 7) for place in places])
        for places in ((-1,), (3,), (0, 0), (1, 0), (2, 0), (2, 1), (0, 2, 1), (1, 0, 2), (2, 1, 0), (0, 1, 1),
                       (0, 0, 1), (-1, 0), (2, 3), (-1, 0, 1), (1, 2, 3), (2, 2, 2)):
            self.bad_keys(*[(place, 5, 7) for place in places])

    def test_keys(self):
        for key in (0, 1, 10 ** 39, 10 ** 40 - 1):
            self.good_keys((1, key, 7))
            self.good_keys((0, 5, 7), (1, 5, 7), (2, key, 7))
        for key in (-1, 10 ** 40, 10 ** 41):
            self.bad_keys((1, key, 7))
            self.bad_keys((0, 5, 7), (1, 5, 7), (2, key, 7))

    def test_next_locks(self):
        for lock in (1, 100, 101):
            self.good_keys((1, 5, lock))
            self.good_keys((0, 5, 7), (1, 5, 7), (2, 5, lock))
        for lock in (-1, 0, 102):
            self.bad_keys((1, 5, lock))
            self.bad_keys((0, 5, 7), (1, 5, 7), (2, 5, lock))
        self.good((CLOSE,), (("ann", ((0, 5, 102),)),), sealer=Sealer(102))

    def test_epoch(self):
        for epoch in (0, 1, 1000, 10 ** 9):
            self.good((CLOSE,), (), epoch)
        self.bad(-1, (CLOSE,), (), -1)
        self.bad(1, (CLOSE, ("what",)), (), -1)


class GroupNamesTest(unittest.TestCase):
    """Point 87."""

    def check(self, expected, deeds, signed=(), fee=0):
        rules = Rules(2, fee, {(0, 1): (2, 3)})
        group = Group(tuple(deeds), tuple((name, ((0, 5, 7),)) for name in signed), 0)
        self.assertEqual(group_names(rules, group), expected)

    def test_names_of_each_deed(self):
        names = {"move": ["ann", "bob"], "mint": ["ann", "mint"], "change": ["ann", "bank"]}
        for word, deed in DEEDS.items():
            self.check(names.get(word, ["ann"]), [deed])

    def test_special_names_in_deeds(self):
        self.check(["mint"], [("mint", "mint", 0, 5)])
        self.check(["bank", "mint"], [("mint", "bank", 0, 5)])
        self.check(["bank"], [("change", "bank", 0, 1, 5)])
        self.check(["bank"], [("burn", "bank", 0, 5)])
        self.check(["mint"], [("rule", "mint", NOTES)])

    def test_bank_and_the_fee(self):
        for word, deed in DEEDS.items():
            names = {"move": ["ann", "bank", "bob"], "mint": ["ann", "mint"], "change": ["ann", "bank"]}
            self.check(names.get(word, ["ann"]), [deed], fee=1)
            self.check(names.get(word, ["ann"]), [deed], fee=1000)
        self.check(["ann", "bob"], [DEEDS["move"]], fee=0)
        self.check(["ann", "bank", "bob"], [DEEDS["move"], DEEDS["change"]], fee=0)

    def test_move_with_the_bank(self):
        self.check(["ann", "bank"], [("move", "ann", "bank", 0, 5)], fee=0)
        self.check(["ann", "bank"], [("move", "bank", "ann", 0, 5)], fee=1)

    def test_names_of_signatures(self):
        self.check(["abe", "ann", "zoe"], [CLOSE], ["zoe", "abe"])
        self.check(["ann"], [CLOSE], ["ann"])

    def test_ascending_each_once(self):
        self.check(["0", "_b", "a", "ann", "bank", "mint", "z"],
                   [("move", "z", "a", 0, 5), ("mint", "ann", 0, 5), ("move", "a", "z", 1, 5), ("close", "_b"),
                    ("mint", "0", 1, 5), ("close", "z")], ["mint", "z", "bank"], fee=1)

    def test_a_new_list_each_time(self):
        group = Group((CLOSE,), (), 0)
        group_names(RULES, group).clear()
        self.assertEqual(group_names(RULES, group), ["ann"])


class MintedTest(unittest.TestCase):
    """Point 88."""

    def check(self, deeds, *expected):
        group = Group(tuple(deeds), (), 0)
        self.assertEqual(tuple(minted(group, kind) for kind in range(len(expected))), expected)

    def test_no_such_deed(self):
        self.check([DEEDS[word] for word in ("open", "close", "move", "change", "rule")], 0, 0, 0)

    def test_one_deed(self):
        self.check([("mint", "ann", 1, 7)], 0, 7, 0)
        self.check([("burn", "ann", 2, 7)], 0, 0, -7)

    def test_several_deeds(self):
        self.check([("mint", "ann", 0, 7), ("burn", "bob", 0, 3), ("mint", "bob", 1, 20), ("mint", "ann", 0, 100),
                    ("move", "ann", "bob", 0, 1000), ("burn", "ann", 2, 5), ("burn", "bob", 2, 50),
                    ("change", "ann", 0, 1, 5000)], 104, 20, -55)


if __name__ == "__main__":
    unittest.main()
