"""Ledgers: the accounts, epoch by epoch, with all that shows others what was done."""

from sumgrove.accounts import is_notes, new_account
from sumgrove.deeds import MINT
from sumgrove.epochs import Chronicle, Shelf
from sumgrove.groups import do_group
from sumgrove.journals import end_line, group_line, read_lines
from sumgrove.pruning import prune, prune_for
from sumgrove.questions import ask
from sumgrove.refusals import GroupRefused, InvalidGroup, InvalidNotes, NoAccount, TooManyEpochs
from sumgrove.trails import Receipts, step_of
from sumgrove.trees import get, root_of, sums_of

SNAPSHOTS = 5


class Ledger:
    """A tree of accounts without cuts, an epoch, a chronicle, a shelf, receipts, a trail and a journal."""

    def __init__(self, sealer, rules, notes):
        if not is_notes(notes, rules.kinds, sealer.modulus()):
            raise InvalidNotes("these are no notes of an account")
        self._sealer = sealer
        self._rules = rules
        self._tree = new_account(MINT, rules.kinds, notes)
        self._epoch = 0
        self._chronicle = Chronicle(sealer)
        self._shelf = Shelf(SNAPSHOTS)
        self._receipts = Receipts(sealer)
        self._trail = []
        self._lines = []

    def root(self):
        """Return the root of the accounts."""
        return root_of(self._sealer, self._tree)

    def tree(self):
        """Return the tree of the accounts."""
        return self._tree

    def epoch(self):
        """Return the present epoch."""
        return self._epoch

    def chronicle(self):
        """Return the chronicle itself."""
        return self._chronicle

    def shelf(self):
        """Return the shelf itself."""
        return self._shelf

    def journal(self):
        """Return the text of the journal."""
        return "".join(self._lines)

    def do(self, group):
        """Do a group and return the new root. Raise InvalidGroup, then GroupRefused."""
        after = do_group(self._sealer, self._rules, self._epoch, self._tree, group)
        root = root_of(self._sealer, after)
        self._trail.append((group, step_of(self._sealer, self._rules, self._tree, group)))
        self._receipts.add(group, root)
        self._lines.append(group_line(group))
        self._tree = after
        return root

    def do_batch(self, groups):
        """Do each group of a list that can be done; return a list with None or (index, word) for each one."""
        return [self._try_group(group) for group in groups]

    def _try_group(self, group):
        """Do a group if it can be done; return None or (index, word)."""
        try:
            self.do(group)
        except InvalidGroup as problem:
            return (problem.index_of_deed, "form")
        except GroupRefused as refusal:
            return (refusal.index_of_deed, refusal.word)
        return None

    def end_epoch(self):
        """End the present epoch and return its number. Raise TooManyEpochs."""
        ended = self._chronicle.add(self.root(), len(self._trail), self._receipts.root())
        self._shelf.keep(ended, self._tree)
        self._lines.append(end_line())
        self._epoch = ended + 1
        self._receipts = Receipts(self._sealer)
        self._trail = []
        return ended

    def receipts(self):
        """Return the receipts of the present epoch, the object itself."""
        return self._receipts

    def trail(self):
        """Return the list of the steps of the present epoch so far."""
        return list(self._trail)

    def answer(self, question):
        """Return the answer to a question."""
        return ask(self._sealer, self._tree, question)

    def show(self, question):
        """Return the tree pruned for a question."""
        return prune_for(self._sealer, self._tree, question)

    def show_names(self, names):
        """Return the tree pruned for names."""
        return prune(self._sealer, self._tree, names)

    def worth(self, name, kind):
        """Return the worth of an account. Raise NoAccount."""
        leaf = get(self._tree, name)
        if leaf is None:
            raise NoAccount(name)
        return leaf[2][kind]

    def total(self, kind):
        """Return the sum of all worths of a kind."""
        return 0 if self._tree is None else sums_of(self._tree)[kind]

    def parts(self):
        """Return (tree, epoch, rows, snapshots, trail, journal)."""
        chronicle = self._chronicle
        rows = [
            (chronicle.root_of(epoch), chronicle.count_of(epoch), chronicle.receipts_of(epoch))
            for epoch in range(chronicle.length())
        ]
        snapshots = [(epoch, self._shelf.snapshot(epoch)) for epoch in self._shelf.kept()]
        return (self._tree, self._epoch, rows, snapshots, self.trail(), self.journal())

    def take_over(self, parts):
        """Replace everything by the parts of a ledger with the same sealer and rules."""
        tree, epoch, rows, snapshots, trail, journal = parts
        chronicle = Chronicle(self._sealer)
        for root, count, receipts_root in rows:
            chronicle.add(root, count, receipts_root)
        shelf = Shelf(SNAPSHOTS)
        shelf.keep_all(snapshots, epoch)
        receipts = Receipts(self._sealer)
        for group, step in trail:
            receipts.add(group, root_of(self._sealer, do_group(self._sealer, self._rules, epoch, step, group)))
        self._tree = tree
        self._epoch = epoch
        self._chronicle = chronicle
        self._shelf = shelf
        self._receipts = receipts
        self._trail = list(trail)
        self._lines = [journal]


def restart(sealer, rules, notes, text):
    """Return the ledger that a journal's text leads to. Raise InvalidNotes."""
    ledger = Ledger(sealer, rules, notes)
    for group in read_lines(text):
        try:
            if group is None:
                ledger.end_epoch()
            else:
                ledger.do(group)
        except (InvalidGroup, GroupRefused, TooManyEpochs):
            break
    return ledger
