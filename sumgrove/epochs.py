"""Chronicles of epochs, their growth, and shelves of snapshots."""

from sumgrove.errors import NoSuchName, NotShown
from sumgrove.pruning import prune
from sumgrove.refusals import CutOff, InvalidShelf, NoSuchEpoch, TooManyEpochs
from sumgrove.trees import drop, get, is_well_formed, put, root_of

MOST_EPOCHS = 1000
MOST_SNAPSHOTS = 20


def epoch_name(number):
    """Return the name of the leaf of an epoch."""
    return f"e{number}"


class Chronicle:
    """A tree of epochs with their roots, their numbers of groups and the roots of their receipts."""

    def __init__(self, sealer):
        self._sealer = sealer
        self._tree = None
        self._length = 0

    def add(self, root, count, receipts):
        """Add an epoch and return its number. Raise TooManyEpochs."""
        number = self._length
        if number >= MOST_EPOCHS:
            raise TooManyEpochs("a chronicle has at most 1000 epochs")
        self._tree = put(self._tree, ("leaf", epoch_name(number), (count,), (root, receipts)))
        self._length = number + 1
        return number

    def length(self):
        """Return the number of the epochs."""
        return self._length

    def top(self):
        """Return the root of the tree."""
        return root_of(self._sealer, self._tree)

    def tree(self):
        """Return the tree."""
        return self._tree

    def root_of(self, epoch):
        """Return the root of the accounts at the end of an epoch. Raise NoSuchEpoch."""
        return self._leaf(epoch)[3][0]

    def count_of(self, epoch):
        """Return the number of the groups in an epoch. Raise NoSuchEpoch."""
        return self._leaf(epoch)[2][0]

    def receipts_of(self, epoch):
        """Return the root of the receipts of an epoch. Raise NoSuchEpoch."""
        return self._leaf(epoch)[3][1]

    def show(self, epochs):
        """Return the tree pruned for epochs. Raise NoSuchEpoch."""
        names = [self._leaf(epoch)[1] for epoch in epochs]
        return prune(self._sealer, self._tree, names)

    def growth(self, old_length):
        """Return the tree pruned for all epochs from an old length on. Raise NoSuchEpoch."""
        if old_length < 0 or old_length > self._length:
            raise NoSuchEpoch(old_length)
        return self.show(list(range(old_length, self._length)))

    def _leaf(self, epoch):
        """Return the leaf of an epoch. Raise NoSuchEpoch."""
        if epoch < 0 or epoch >= self._length:
            raise NoSuchEpoch(epoch)
        return get(self._tree, epoch_name(epoch))


def check_growth(sealer, old_top, old_length, top, length, tree):
    """Return True if a tree shows that a chronicle grew from an old top to a top, otherwise False."""
    if old_length < 0 or old_length > length or length > MOST_EPOCHS:
        return False
    if not is_well_formed(sealer, tree) or root_of(sealer, tree) != top:
        return False
    rest = tree
    try:
        for epoch in range(length - 1, old_length - 1, -1):
            rest = drop(rest, epoch_name(epoch))
    except (NoSuchName, NotShown):
        return False
    return root_of(sealer, rest) == old_top


class Shelf:
    """The snapshots of the latest epochs."""

    def __init__(self, most):
        if most < 1 or most > MOST_SNAPSHOTS:
            raise InvalidShelf(most)
        self._most = most
        self._given = {}
        self._trees = {}
        self._least_next = 0

    def keep(self, epoch, tree):
        """Keep the snapshot of an epoch that is greater than all before. Raise NoSuchEpoch."""
        if epoch < self._least_next:
            raise NoSuchEpoch(epoch)
        self._given[epoch] = True
        self._trees[epoch] = tree
        self._least_next = epoch + 1
        self._cut_off()

    def snapshot(self, epoch):
        """Return the tree of an epoch. Raise NoSuchEpoch or CutOff."""
        if epoch not in self._given:
            raise NoSuchEpoch(epoch)
        if epoch not in self._trees:
            raise CutOff(epoch)
        return self._trees[epoch]

    def kept(self):
        """Return the ascending list of the epochs whose snapshots are kept."""
        return sorted(self._trees)

    def keep_all(self, rows, length):
        """Keep the snapshots of rows (epoch, tree) alone, as if all epochs below the length had been kept."""
        self._given = {epoch: True for epoch in range(length)}
        self._trees = {epoch: tree for epoch, tree in rows}
        self._least_next = length
        self._cut_off()

    def _cut_off(self):
        """Forget the oldest snapshots if there are too many."""
        for epoch in self.kept()[:-self._most]:
            del self._trees[epoch]
