import unittest

from sumgrove.accounts import is_notes, lock_of
from sumgrove.deeds import Group, Rules
from sumgrove.errors import GroveError
from sumgrove.ledgers import Ledger
from sumgrove.seals import Sealer
from sumgrove.trees import get
from sumgrove.wallets import UnknownKeys, Wallet
from tests.helper import PRIME, SEALER, lock, noted, outcome


def fresh_keys(many, seed=5, sealer=SEALER):
    return [sealer.seal((13, seed, number)) for number in range(many)]


def unknown(name):
    return ("UnknownKeys", {"name": name})


class KeysTest(unittest.TestCase):
    """Points 170 and 171."""

    def test_fresh_keys(self):
        for sealer in (SEALER, Sealer(101)):
            for seed in (0, 5, 10 ** 30):
                wallet = Wallet(sealer, seed)
                self.assertEqual([wallet.fresh() for _ in range(20)], fresh_keys(20, seed, sealer))

    def test_add_and_all_keys(self):
        wallet = Wallet(SEALER, 5)
        self.assertEqual(wallet.names(), [])
        self.assertEqual(outcome(wallet.all_keys, "ann"), unknown("ann"))
        self.assertIsNone(wallet.add("bob", (1, None, 3)))
        wallet.add("ann", (None, None, None))
        wallet.add("cid", (0, 2, 4))
        self.assertEqual(wallet.names(), ["ann", "bob", "cid"])
        self.assertEqual(wallet.all_keys("bob"), (1, None, 3))
        self.assertEqual(wallet.all_keys("ann"), (None, None, None))
        wallet.add("bob", (7, 8, None))
        self.assertEqual(wallet.all_keys("bob"), (7, 8, None))
        self.assertEqual(wallet.names(), ["ann", "bob", "cid"])
        self.assertEqual(outcome(wallet.all_keys, "zoe"), unknown("zoe"))

    def test_names_are_a_new_list(self):
        wallet = Wallet(SEALER, 5)
        wallet.add("ann", (1, None, None))
        wallet.names().clear()
        self.assertEqual(wallet.names(), ["ann"])

    def test_notes(self):
        a, b, c = fresh_keys(3)
        for need, places, limit, hold, notes in (
            (0, [], 0, (0, 0, 0), (0, 0, 0, 0, 0, 0, 0, 0)),
            (1, [0], 50, (1, 20, 9), (lock(a), 0, 0, 1, 50, 1, 20, 9)),
            (1, [1], 0, (0, 0, 0), (0, lock(a), 0, 1, 0, 0, 0, 0)),
            (0, [2], 0, (0, 1, 2), (0, 0, lock(a), 0, 0, 0, 1, 2)),
            (2, [0, 2], 7, (2, 0, 0), (lock(a), 0, lock(b), 2, 7, 2, 0, 0)),
            (3, [0, 1, 2], 10 ** 12, (0, 10 ** 12, 10 ** 6), (lock(a), lock(b), lock(c), 3, 10 ** 12, 0, 10 ** 12, 10 ** 6)),
        ):
            wallet = Wallet(SEALER, 5)
            kept = list(places)
            self.assertEqual(wallet.notes_for(need, kept, limit, hold), notes)
            self.assertTrue(is_notes(notes, 3, PRIME))
            self.assertEqual(kept, places)
            self.assertEqual(wallet.names(), [])
            # The next fresh key is the one behind those that were drawn.
            self.assertEqual(wallet.fresh(), fresh_keys(4)[len(places)])

    def test_remember(self):
        a, b, c, d = fresh_keys(4)
        wallet = Wallet(SEALER, 5)
        self.assertEqual(outcome(wallet.remember, "ann"), unknown("ann"))
        self.assertEqual(wallet.names(), [])
        wallet.notes_for(2, [0, 2], 0, (0, 0, 0))
        self.assertEqual(outcome(wallet.all_keys, "ann"), unknown("ann"))
        self.assertIsNone(wallet.remember("ann"))
        self.assertEqual(wallet.all_keys("ann"), (a, None, b))
        # They stay the latest ones.
        wallet.remember("bob")
        self.assertEqual(wallet.all_keys("bob"), (a, None, b))
        wallet.notes_for(1, [1], 0, (0, 0, 0))
        self.assertEqual(wallet.all_keys("ann"), (a, None, b))
        wallet.remember("bob")
        self.assertEqual((wallet.all_keys("ann"), wallet.all_keys("bob")), ((a, None, b), (None, c, None)))
        wallet.notes_for(0, [], 0, (0, 0, 0))
        wallet.remember("cid")
        self.assertEqual(wallet.all_keys("cid"), (None, None, None))
        self.assertEqual(wallet.fresh(), d)

    def test_remember_after_other_draws(self):
        a, _, _ = fresh_keys(3)
        wallet = Wallet(SEALER, 5)
        wallet.fresh()
        self.assertEqual(outcome(wallet.remember, "ann"), unknown("ann"))
        wallet = Wallet(SEALER, 5)
        wallet.notes_for(1, [0], 0, (0, 0, 0))
        wallet.fresh()
        wallet.remember("ann")
        wallet.sign("ann", 1)
        wallet.done(())
        wallet.remember("bob")
        self.assertEqual(wallet.all_keys("bob"), (a, None, None))

    def test_error_class(self):
        self.assertEqual(UnknownKeys.__bases__, (GroveError,))
        self.assertEqual(vars(UnknownKeys(name="a")), {"name": "a"})


class SignTest(unittest.TestCase):
    """Point 172."""

    def setUp(self):
        self.wallet = Wallet(SEALER, 5)
        self.wallet.add("ann", (11, None, 33))
        self.wallet.add("bob", (41, 42, 43))
        self.wallet.add("cid", (None, None, None))
        self.fresh = fresh_keys(12)

    def signature(self, name, *rows):
        """A signature of (place, key, number of the fresh next key)."""
        return (name, tuple((place, key, lock(self.fresh[number])) for place, key, number in rows))

    def test_first_keys_by_place(self):
        for name, need, rows in (("ann", 0, [(0, 11, 0)]), ("ann", 1, [(0, 11, 1)]),
                                 ("ann", 2, [(0, 11, 2), (2, 33, 3)]), ("bob", 0, [(0, 41, 4)]),
                                 ("bob", 1, [(0, 41, 5)]), ("bob", 2, [(0, 41, 6), (1, 42, 7)]),
                                 ("bob", 3, [(0, 41, 8), (1, 42, 9), (2, 43, 10)])):
            self.assertEqual(self.wallet.sign(name, need), self.signature(name, *rows))
        self.assertEqual(self.wallet.fresh(), self.fresh[11])

    def test_keys_at_later_places(self):
        self.wallet.add("dan", (None, 0, None))
        self.wallet.add("eve", (None, 52, 53))
        for name, need, rows in (("dan", 0, [(1, 0, 0)]), ("dan", 1, [(1, 0, 1)]), ("eve", 1, [(1, 52, 2)]),
                                 ("eve", 2, [(1, 52, 3), (2, 53, 4)])):
            self.assertEqual(self.wallet.sign(name, need), self.signature(name, *rows))

    def test_unknown_keys(self):
        for name, need in (("ann", 3), ("cid", 0), ("cid", 1), ("zoe", 0), ("zoe", 1), ("bob", 4)):
            self.assertEqual(outcome(self.wallet.sign, name, need), unknown(name))
        # Nothing was drawn.
        self.assertEqual(self.wallet.sign("ann", 1), self.signature("ann", (0, 11, 0)))

    def test_keys_stay_until_done(self):
        self.wallet.sign("ann", 2)
        self.assertEqual(self.wallet.all_keys("ann"), (11, None, 33))
        self.assertEqual(self.wallet.sign("ann", 2), self.signature("ann", (0, 11, 2), (2, 33, 3)))

    def test_done(self):
        signatures = (self.wallet.sign("ann", 2), self.wallet.sign("bob", 2))
        self.assertIsNone(self.wallet.done(signatures))
        self.assertEqual(self.wallet.all_keys("ann"), (self.fresh[0], None, self.fresh[1]))
        self.assertEqual(self.wallet.all_keys("bob"), (self.fresh[2], self.fresh[3], 43))
        self.assertEqual(self.wallet.sign("ann", 1), self.signature("ann", (0, self.fresh[0], 4)))

    def test_undone(self):
        signature = self.wallet.sign("ann", 2)
        self.assertIsNone(self.wallet.undone())
        self.wallet.done((signature,))
        self.assertEqual(self.wallet.all_keys("ann"), (11, None, 33))
        self.assertEqual(self.wallet.fresh(), self.fresh[2])

    def test_done_of_no_signatures(self):
        signature = self.wallet.sign("ann", 2)
        self.wallet.done(())
        self.wallet.done((signature,))
        self.assertEqual(self.wallet.all_keys("ann"), (11, None, 33))

    def test_done_of_a_part_of_the_signatures(self):
        ann, bob = self.wallet.sign("ann", 1), self.wallet.sign("bob", 1)
        self.wallet.done((bob,))
        self.assertEqual(self.wallet.all_keys("bob"), (self.fresh[1], 42, 43))
        # The next keys of the other one are forgotten.
        self.wallet.done((ann,))
        self.assertEqual(self.wallet.all_keys("ann"), (11, None, 33))

    def test_done_twice(self):
        signature = self.wallet.sign("ann", 1)
        self.wallet.done((signature,))
        second = self.wallet.sign("ann", 1)
        self.wallet.done((second,))
        self.wallet.done((signature,))
        self.assertEqual(self.wallet.all_keys("ann"), (self.fresh[1], None, 33))

    def test_signing_twice_before_done(self):
        for used in (0, 1):
            self.setUp()
            both = [self.wallet.sign("ann", 1), self.wallet.sign("ann", 1)]
            self.wallet.done((both[used],))
            self.assertEqual(self.wallet.all_keys("ann"), (self.fresh[used], None, 33))
            self.wallet.done((both[1 - used],))
            self.assertEqual(self.wallet.all_keys("ann"), (self.fresh[used], None, 33))

    def test_signatures_of_another_wallet(self):
        other = Wallet(SEALER, 6)
        other.add("ann", (11, None, 33))
        foreign = other.sign("ann", 1)
        own = self.wallet.sign("bob", 1)
        self.wallet.done((foreign, own))
        self.assertEqual(self.wallet.all_keys("ann"), (11, None, 33))
        self.assertEqual(self.wallet.all_keys("bob"), (self.fresh[0], 42, 43))
        self.assertEqual(other.all_keys("ann"), (11, None, 33))

    def test_signatures_with_other_parts(self):
        def tried(change):
            self.setUp()
            name, shown = self.wallet.sign("ann", 2)
            self.wallet.done((change(name, shown),))
            return self.wallet.all_keys("ann"), self.wallet.all_keys("bob")

        old, new = ((11, None, 33), (41, 42, 43)), ((self.fresh[0], None, self.fresh[1]), (41, 42, 43))
        self.assertEqual(tried(lambda name, shown: (name, shown)), new)
        # Each of the next locks must be one that was drawn for this account and this place.
        self.assertEqual(tried(lambda name, shown: ("bob", shown)), old)
        self.assertEqual(tried(lambda name, shown: ("zoe", shown)), old)
        self.assertEqual(tried(lambda name, shown: (name, (shown[0], (2, 33, 5)))), old)
        self.assertEqual(tried(lambda name, shown: (name, ((0, 11, 5), shown[1]))), old)
        self.assertEqual(tried(lambda name, shown: (name, (shown[0], (1, *shown[1][1:])))), old)
        self.assertEqual(tried(lambda name, shown: (name, ((0, 11, shown[1][2]), (2, 33, shown[0][2])))), old)
        self.assertEqual(tried(lambda name, shown: (name, (shown[0], shown[1], (1, 5, 5)))), old)
        # The keys that are shown are not looked at, and a part of the places is enough.
        self.assertEqual(tried(lambda name, shown: (name, ((0, 99, shown[0][2]), (2, 98, shown[1][2])))), new)
        self.assertEqual(tried(lambda name, shown: (name, shown[1:])), ((11, None, self.fresh[1]), (41, 42, 43)))
        self.assertEqual(tried(lambda name, shown: (name, ())), old)
        self.assertEqual(self.wallet.names(), ["ann", "bob", "cid"])

    def test_signatures_without_keys(self):
        self.wallet.done((("zoe", ()), ("ann", ())))
        self.assertEqual(self.wallet.names(), ["ann", "bob", "cid"])
        self.assertEqual(self.wallet.all_keys("ann"), (11, None, 33))

    def test_replaced_keys(self):
        """Next keys that are not used yet stay when the keys of an account are replaced."""
        signature = self.wallet.sign("ann", 2)
        self.wallet.add("ann", (71, 72, 73))
        self.assertEqual(self.wallet.all_keys("ann"), (71, 72, 73))
        self.wallet.done((signature,))
        self.assertEqual(self.wallet.all_keys("ann"), (self.fresh[0], 72, self.fresh[1]))
        signature = self.wallet.sign("ann", 1)
        self.wallet.notes_for(1, [1], 0, (0, 0, 0))
        self.wallet.remember("ann")
        self.wallet.done((signature,))
        self.assertEqual(self.wallet.all_keys("ann"), (self.fresh[2], self.fresh[3], None))

    def test_next_keys_with_the_same_lock(self):
        """With a small modulus, the later one of two keys with the same lock counts."""
        sealer = Sealer(17)
        found = 0
        for seed in range(40):
            keys = fresh_keys(2, seed, sealer)
            wallet = Wallet(sealer, seed)
            wallet.add("ann", (1, None, None))
            first, second = wallet.sign("ann", 1), wallet.sign("ann", 1)
            self.assertEqual((first[1][0][2], second[1][0][2]), tuple(lock_of(sealer, key) for key in keys))
            wallet.done((first,))
            same = first == second
            found += same and keys[0] != keys[1]
            self.assertEqual(wallet.all_keys("ann"), (keys[1] if same else keys[0], None, None))
        self.assertGreater(found, 0)

    def test_the_same_lock_at_other_places_and_accounts(self):
        sealer = Sealer(17)
        found = 0
        for seed in range(40):
            keys = fresh_keys(3, seed, sealer)
            wallet = Wallet(sealer, seed)
            wallet.add("ann", (1, 2, None))
            wallet.add("bob", (3, None, None))
            signatures = (wallet.sign("ann", 2), wallet.sign("bob", 1))
            locks = [triple[2] for _, shown in signatures for triple in shown]
            found += len(set(locks)) < 3 and len(set(keys)) == 3
            wallet.done(signatures)
            self.assertEqual(wallet.all_keys("ann"), (keys[0], keys[1], None))
            self.assertEqual(wallet.all_keys("bob"), (keys[2], None, None))
        self.assertGreater(found, 0)


class RunTest(unittest.TestCase):
    """Point 173."""

    def test_a_run_on_a_ledger(self):
        rules = Rules(2, 1, {(0, 1): (2, 1)})
        wallet = Wallet(SEALER, 77)
        ledger = Ledger(SEALER, rules, wallet.notes_for(2, [0, 1, 2], 0, (0, 0, 0)))
        wallet.remember("mint")
        self.do(ledger, wallet, [("open", "bank", noted())], [])
        for number, (need, places) in enumerate(((1, [0]), (1, [2]), (2, [0, 1]), (2, [0, 2]), (3, [0, 1, 2]))):
            name = f"n{number}"
            notes = wallet.notes_for(need, places, 0, (0, 0, 0))
            self.do(ledger, wallet, [("open", name, notes)], [])
            wallet.remember(name)
            self.do(ledger, wallet, [("mint", name, 0, 1000)], [("mint", 2 + number % 2)])
        needs = dict(zip(["n0", "n1", "n2", "n3", "n4"], (1, 1, 2, 2, 3)))
        for number in range(30):
            first, second = f"n{number % 5}", f"n{(number * 2 + 1) % 5}"
            deeds = [("burn", first, 0, 1)]
            signers = [(first, needs[first])]
            if second != first:
                deeds.append(("move", second, first, 0, 2))
                signers.append((second, needs[second]))
            self.do(ledger, wallet, deeds, signers)
            # A group that is refused changes no lock.
            refused = self.group(ledger, wallet, [("burn", first, 0, 10 ** 12)], [(first, needs[first])])
            self.assertEqual(outcome(ledger.do, refused)[1]["word"], "short")
            wallet.undone()
            if number % 7 == 3:
                ledger.end_epoch()
            if number % 6 == 2:
                notes = wallet.notes_for(needs[first], [0, 1, 2], 0, (0, 0, 0))
                self.do(ledger, wallet, [("rule", first, notes)], [(first, needs[first])])
                wallet.remember(first)
        self.assertEqual(len(ledger.trail()) + sum(ledger.chronicle().count_of(epoch) for epoch in range(4)), 46)
        for name in wallet.names():
            locks = get(ledger.tree(), name)[3][:3]
            self.assertEqual(locks, tuple(0 if key is None else lock(key) for key in wallet.all_keys(name)))

    def group(self, ledger, wallet, deeds, signers):
        return Group(tuple(deeds), tuple(wallet.sign(*signer) for signer in signers), ledger.epoch())

    def do(self, ledger, wallet, deeds, signers):
        group = self.group(ledger, wallet, deeds, signers)
        self.assertEqual(outcome(ledger.do, group), ("returned", ledger.root()))
        wallet.done(group.signatures)


if __name__ == "__main__":
    unittest.main()
