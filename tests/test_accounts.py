import unittest

from sumgrove.accounts import are_accounts, is_enough, is_notes, lock_of, new_account
from sumgrove.seals import Sealer
from sumgrove.trees import build, is_well_formed
from tests.helper import PRIME, SEALER, leaf, noted, told_cut

SMALL = Sealer(101)
LOCKS = (5, 6, 7)


class LocksTest(unittest.TestCase):
    """Point 71."""

    def test_lock_of_a_key(self):
        # The steps of point 12 by hand: 1, then the row (7, 3), then its length.
        seal = 1
        for number in (7, 3, 2):
            seal = (seal ** 3 + 5 * seal + 3 * number + 1) % 101
        self.assertEqual(lock_of(SMALL, 3), seal + 1)

    def test_more_than_the_seal_of_its_row(self):
        for sealer in (SMALL, SEALER, Sealer(3)):
            for key in (0, 1, 2, 10 ** 39, 10 ** 40 - 1):
                self.assertEqual(lock_of(sealer, key), sealer.seal((7, key)) + 1)
                self.assertTrue(1 <= lock_of(sealer, key) <= sealer.modulus())

    def test_from_1_to_the_modulus(self):
        locks = {modulus: {lock_of(Sealer(modulus), key) for key in range(60)} for modulus in range(3, 40)}
        self.assertEqual(min(min(told) for told in locks.values()), 1)
        for modulus, told in locks.items():
            self.assertLessEqual(max(told), modulus)
        self.assertTrue(any(modulus in told for modulus, told in locks.items()))

    def test_two_moduli(self):
        self.assertNotEqual(lock_of(SMALL, 12), lock_of(SEALER, 12))


class NotesTest(unittest.TestCase):
    """Points 70 to 72: valid notes."""

    def good(self, notes, kinds=2, modulus=101):
        self.assertIs(is_notes(notes, kinds, modulus), True, notes)

    def bad(self, notes, kinds=2, modulus=101):
        self.assertIs(is_notes(notes, kinds, modulus), False, notes)

    def test_ordinary_notes(self):
        self.good(noted())
        self.good(noted(LOCKS, 2, 50, (1, 20, 9)))

    def test_number_of_notes(self):
        self.bad(())
        self.bad((0,) * 7)
        self.bad((0,) * 9)
        self.bad((0,) * 12)
        self.good((0,) * 8)

    def test_locks(self):
        for place in range(3):
            for lock, check in ((0, self.good), (1, self.good), (101, self.good), (-1, self.bad), (102, self.bad)):
                locks = [0, 0, 0]
                locks[place] = lock
                check(noted(tuple(locks)))
                check(noted(tuple(lock if at == place else 9 for at in range(3))))
        self.good(noted((PRIME,) * 3), modulus=PRIME)
        self.bad(noted((PRIME + 1, 1, 1)), modulus=PRIME)
        self.good(noted((3, 0, 0)), modulus=3)
        self.bad(noted((4, 0, 0)), modulus=3)

    def test_need(self):
        for need in range(4):
            self.good(noted(LOCKS, need))
        self.bad(noted(LOCKS, -1))
        self.bad(noted(LOCKS, 4))

    def test_need_and_locks_that_are_not_0(self):
        for locks, most in (((0, 0, 0), 0), ((5, 0, 0), 1), ((0, 5, 0), 1), ((0, 0, 5), 1), ((5, 5, 0), 2),
                            ((0, 5, 5), 2), ((5, 0, 5), 2), ((5, 5, 5), 3)):
            for need in range(most + 1):
                self.good(noted(locks, need))
            self.bad(noted(locks, most + 1))

    def test_limit(self):
        for limit in (0, 1, 10 ** 12):
            self.good(noted(limit=limit))
        for limit in (-1, 10 ** 12 + 1):
            self.bad(noted(limit=limit))

    def test_hold_kind(self):
        for kinds in (1, 2, 3):
            for kind in range(kinds):
                self.good(noted(hold=(kind, 0, 0)), kinds)
                self.good(noted(hold=(kind, 5, 5)), kinds)
            for kind in (-1, kinds):
                self.bad(noted(hold=(kind, 0, 0)), kinds)
                self.bad(noted(hold=(kind, 5, 5)), kinds)

    def test_hold_amount(self):
        for amount in (0, 1, 10 ** 12):
            self.good(noted(hold=(0, amount, 1)))
        for amount in (-1, 10 ** 12 + 1):
            self.bad(noted(hold=(0, amount, 1)))

    def test_hold_epoch(self):
        for epoch in (0, 1, 10 ** 6):
            self.good(noted(hold=(0, 1, epoch)))
        for epoch in (-1, 10 ** 6 + 1):
            self.bad(noted(hold=(0, 1, epoch)))


class EnoughTest(unittest.TestCase):
    """Point 72: the hold."""

    def test_amounts(self):
        notes = noted(hold=(1, 20, 5))
        for worths, kept in (((0, 19), False), ((0, 20), True), ((0, 21), True), ((99, 19), False), ((99, 0), False)):
            self.assertIs(is_enough(notes, worths, 4), kept)
            self.assertIs(is_enough(notes, worths, 0), kept)

    def test_epochs(self):
        notes = noted(hold=(0, 20, 5))
        self.assertIs(is_enough(notes, (19, 99), 4), False)
        for epoch in (5, 6, 100):
            self.assertIs(is_enough(notes, (19, 99), epoch), True)
            self.assertIs(is_enough(notes, (0, 0), epoch), True)

    def test_no_hold(self):
        self.assertIs(is_enough(noted(), (0,), 0), True)
        self.assertIs(is_enough(noted(hold=(0, 0, 9)), (0,), 0), True)
        self.assertIs(is_enough(noted(hold=(0, 5, 0)), (0,), 0), True)


class NewAccountTest(unittest.TestCase):
    """Point 70."""

    def test_new_account(self):
        notes = noted(LOCKS, 2, 50, (0, 20, 9))
        for kinds in (1, 2, 3):
            self.assertEqual(new_account("ann", kinds, notes), ("leaf", "ann", (0,) * kinds, notes))
            self.assertTrue(is_well_formed(SEALER, new_account("ann", kinds, notes)))
            self.assertTrue(are_accounts(SEALER, kinds, new_account("ann", kinds, notes)))


class AreAccountsTest(unittest.TestCase):
    def check(self, tree, expected, kinds=2, sealer=SMALL):
        self.assertIs(are_accounts(sealer, kinds, tree), expected)
        if tree is not None:
            # The same as one side of a branch among others.
            other = leaf("0", (1,) * kinds, noted())
            self.assertIs(are_accounts(sealer, kinds, ("branch", other, tree)), expected)
            self.assertIs(are_accounts(sealer, kinds, ("branch", tree, leaf("z", (1,) * kinds, noted()))), expected)

    def test_empty_tree(self):
        for kinds in (1, 2, 3):
            self.check(None, True, kinds)

    def test_number_of_worths(self):
        for many in (1, 2, 3):
            for kinds in (1, 2, 3):
                self.check(leaf("a", (5,) * many, noted()), many == kinds, kinds)

    def test_worths(self):
        for worths in ((0, 0), (10 ** 12, 10 ** 12)):
            self.check(leaf("a", worths, noted()), True)
        for worths in ((10 ** 12 + 1, 0), (0, 10 ** 12 + 1), (10 ** 15, 10 ** 15)):
            self.check(leaf("a", worths, noted()), False)

    def test_notes(self):
        self.check(leaf("a", (5, 5), noted(LOCKS, 3, 10 ** 12, (1, 10 ** 12, 10 ** 6))), True)
        for notes in ((), (0,) * 7, (0,) * 9, noted(need=1), noted(hold=(2, 0, 0)), noted((102, 0, 0))):
            self.check(leaf("a", (5, 5), notes), False)
        self.check(leaf("a", (5, 5), noted((102, 0, 0))), True, sealer=SEALER)

    def test_cuts(self):
        for many in (1, 2, 3):
            for kinds in (1, 2, 3):
                self.check(told_cut(sums=(5,) * many), many == kinds, kinds)
        self.check(told_cut(sums=(10 ** 24, 0)), True)

    def test_each_leaf(self):
        good = [leaf(name, (1, 2), noted()) for name in "abcdefgh"]
        self.assertIs(are_accounts(SMALL, 2, build(good)), True)
        for place in range(8):
            bad = leaf(good[place][1], (1, 2), noted(need=1))
            self.assertIs(are_accounts(SMALL, 2, build([*good[:place], bad, *good[place + 1:]])), False)


if __name__ == "__main__":
    unittest.main()
