"""Accounts: leaves with money, whose notes tell locks, a need, a limit and a hold."""

MOST_MONEY = 10 ** 12
LAST_HOLD_EPOCH = 10 ** 6
MOST_LOCKS = 3
NUMBER_OF_NOTES = 8
# The places of what stands in the notes behind the locks; the hold has the last three places.
NEED = 3
LIMIT = 4
HOLD = 5
# Rows begin with a number for what they are a row of.
KEY_ROW = 7


def lock_of(sealer, key):
    """Return the lock of a key."""
    return sealer.seal((KEY_ROW, key)) + 1


def is_notes(notes, kinds, modulus):
    """Return True if a tuple of integers is valid as notes for so many kinds of money, otherwise False."""
    if len(notes) != NUMBER_OF_NOTES:
        return False
    *locks, need, limit, hold_kind, hold_amount, hold_epoch = notes
    set_locks = [lock for lock in locks if lock != 0]
    return (
        all([0 <= lock <= modulus for lock in locks])
        and 0 <= need <= len(set_locks)
        and 0 <= limit <= MOST_MONEY
        and 0 <= hold_kind < kinds
        and 0 <= hold_amount <= MOST_MONEY
        and 0 <= hold_epoch <= LAST_HOLD_EPOCH
    )


def is_enough(notes, worths, epoch):
    """Return True if worths keep the hold of notes in an epoch, otherwise False."""
    hold_kind, hold_amount, hold_epoch = notes[HOLD:]
    return epoch >= hold_epoch or worths[hold_kind] >= hold_amount


def new_account(name, kinds, notes):
    """Return the leaf of an account without money."""
    return ("leaf", name, (0,) * kinds, notes)


def are_accounts(sealer, kinds, tree):
    """Return True if the open leaves of a well-formed tree are accounts and its cuts have sums for each kind."""
    if tree is None:
        return True
    if tree[0] == "branch":
        return are_accounts(sealer, kinds, tree[1]) and are_accounts(sealer, kinds, tree[2])
    if tree[0] == "cut":
        return len(tree[1][2]) == kinds
    return is_account(sealer, kinds, tree)


def is_account(sealer, kinds, leaf):
    """Return True if a leaf is an account with so many kinds of money, otherwise False."""
    _, _, worths, notes = leaf
    return (
        len(worths) == kinds
        and all([worth <= MOST_MONEY for worth in worths])
        and is_notes(notes, kinds, sealer.modulus())
    )
