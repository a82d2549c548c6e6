"""Doing groups: the signatures first, then one deed after the other, whole or not at all."""

from sumgrove.accounts import LIMIT, MOST_MONEY, NEED, is_enough, lock_of, new_account
from sumgrove.deeds import BANK, MINT, check_group
from sumgrove.refusals import GroupRefused
from sumgrove.trees import drop, get, put


class Work:
    """A group that is being done: the tree so far, and what counts for the accounts in this group."""

    def __init__(self, rules, epoch, tree):
        self.rules = rules
        self.epoch = epoch
        self.before = tree
        self.tree = tree
        # What is refused before the first deed has the index -1.
        self.index = -1
        self.keys_shown = {}
        self.opened = {}
        self.given = {}

    def refuse(self, word):
        """Raise GroupRefused for what is being done."""
        raise GroupRefused(self.index, word)

    def account(self, name):
        """Return the account of a name; refuse the group if there is none. Raise NotShown."""
        leaf = get(self.tree, name)
        if leaf is None:
            self.refuse("unknown")
        return leaf

    def notes_that_count(self, name):
        """Return the notes that tell the need, the limit and the hold of an account in this group."""
        if name in self.opened:
            return self.opened[name]
        return get(self.before, name)[3]

    def ask_signed(self, name):
        """Refuse the group if fewer keys of an account were shown than it needs."""
        if self.keys_shown.get(name, 0) < self.notes_that_count(name)[NEED]:
            self.refuse("unsigned")

    def open_account(self, name, notes):
        """Put a new account, for which nothing counts that was shown or given under its name before."""
        self.tree = put(self.tree, new_account(name, self.rules.kinds, notes))
        self.opened[name] = notes
        self.keys_shown[name] = 0
        for kind in range(self.rules.kinds):
            self.given[(name, kind)] = 0

    def give(self, name, other, kind, amount):
        """Let an account give an amount to another one."""
        self.spend(name, kind, amount, True)
        self.receive(other, kind, amount)

    def spend(self, name, kind, amount, is_limited):
        """Take an amount from an account, within its hold and, if it is limited, within its limit."""
        leaf = self.account(name)
        if leaf[2][kind] < amount:
            self.refuse("short")
        if is_limited:
            self.count_given(name, kind, amount)
        worths = self.change_worth(leaf, kind, -amount)
        if not is_enough(self.notes_that_count(name), worths, self.epoch):
            self.refuse("held")

    def count_given(self, name, kind, amount):
        """Add to what an account has given in this group; refuse the group if it is more than its limit."""
        given = self.given.get((name, kind), 0) + amount
        limit = self.notes_that_count(name)[LIMIT]
        if limit > 0 and given > limit:
            self.refuse("limit")
        self.given[(name, kind)] = given

    def receive(self, name, kind, amount):
        """Add an amount to what an account has."""
        leaf = self.account(name)
        if leaf[2][kind] + amount > MOST_MONEY:
            self.refuse("much")
        self.change_worth(leaf, kind, amount)

    def change_worth(self, leaf, kind, amount):
        """Put an account with so much more of a kind; return its new worths."""
        _, name, worths, notes = leaf
        changed = worths[:kind] + (worths[kind] + amount,) + worths[kind + 1:]
        self.tree = put(self.tree, ("leaf", name, changed, notes))
        return changed


def take_signature(sealer, work, signature):
    """Open the locks of an account with the keys of a signature, and put the next locks in their places."""
    name, shown = signature
    _, _, worths, notes = work.account(name)
    replaced = list(notes)
    for place, key, next_lock in shown:
        if notes[place] != lock_of(sealer, key):
            work.refuse("key")
        replaced[place] = next_lock
    work.tree = put(work.tree, ("leaf", name, worths, tuple(replaced)))
    work.keys_shown[name] = len(shown)


def do_open(work, deed):
    """Open an account."""
    _, name, notes = deed
    if get(work.tree, name) is not None:
        work.refuse("there")
    work.open_account(name, notes)


def do_close(work, deed):
    """Close an account."""
    _, name = deed
    leaf = work.account(name)
    work.ask_signed(name)
    if any([worth > 0 for worth in leaf[2]]):
        work.refuse("money")
    work.tree = drop(work.tree, name)


def do_move(work, deed):
    """Move money from an account to another one, and the fee to the bank."""
    _, name, other, kind, amount = deed
    if name == other:
        work.refuse("same")
    work.account(name)
    work.account(other)
    work.ask_signed(name)
    work.give(name, other, kind, amount)
    if work.rules.fee > 0 and BANK not in (name, other):
        work.account(BANK)
        work.give(name, BANK, 0, work.rules.fee)


def do_mint(work, deed):
    """Make money in an account."""
    _, name, kind, amount = deed
    work.account(name)
    work.account(MINT)
    work.ask_signed(MINT)
    work.receive(name, kind, amount)


def do_burn(work, deed):
    """Take money away."""
    _, name, kind, amount = deed
    work.account(name)
    work.ask_signed(name)
    work.spend(name, kind, amount, True)


def do_change(work, deed):
    """Exchange an amount of one kind for another kind at the bank."""
    _, name, given, taken, amount = deed
    work.account(name)
    work.account(BANK)
    if name == BANK:
        work.refuse("same")
    rate = work.rules.rates.get((given, taken))
    if rate is None:
        work.refuse("rate")
    work.ask_signed(name)
    result = amount * rate[0] // rate[1]
    if result == 0:
        work.refuse("little")
    work.give(name, BANK, given, amount)
    work.spend(BANK, taken, result, False)
    work.receive(name, taken, result)


def do_rule(work, deed):
    """Give an account new notes."""
    _, name, notes = deed
    leaf = work.account(name)
    work.ask_signed(name)
    work.tree = put(work.tree, ("leaf", name, leaf[2], notes))


ACTIONS = {
    "open": do_open,
    "close": do_close,
    "move": do_move,
    "mint": do_mint,
    "burn": do_burn,
    "change": do_change,
    "rule": do_rule,
}


def do_group(sealer, rules, epoch, tree, group):
    """Return the tree after a group. Raise InvalidGroup, then GroupRefused or NotShown."""
    check_group(sealer, rules, group)
    work = Work(rules, epoch, tree)
    if group.epoch != epoch:
        work.refuse("epoch")
    for signature in group.signatures:
        take_signature(sealer, work, signature)
    for index, deed in enumerate(group.deeds):
        work.index = index
        action = ACTIONS[deed[0]]
        action(work, deed)
    return work.tree
