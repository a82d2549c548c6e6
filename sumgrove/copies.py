"""Copies that hold a part of the tree of accounts."""

from sumgrove.errors import WrongRoot
from sumgrove.groups import do_group
from sumgrove.pruning import join_trees, prune
from sumgrove.questions import ask
from sumgrove.trees import root_of


class Copy:
    """A pruned tree of the accounts with a known root."""

    def __init__(self, sealer, rules, epoch, root, tree):
        actual = root_of(sealer, tree)
        if actual != root:
            raise WrongRoot(actual)
        self._sealer = sealer
        self._rules = rules
        self._epoch = epoch
        self._tree = tree

    def root(self):
        """Return the root of the tree."""
        return root_of(self._sealer, self._tree)

    def tree(self):
        """Return the tree."""
        return self._tree

    def epoch(self):
        """Return the epoch."""
        return self._epoch

    def grow(self, tree):
        """Join a tree of the same root to the own one. Raise WrongRoot, then Unlike."""
        self._tree = join_trees(self._sealer, self._tree, tree)

    def do(self, group):
        """Do a group and return the new root. Raise InvalidGroup, then GroupRefused or NotShown."""
        self._tree = do_group(self._sealer, self._rules, self._epoch, self._tree, group)
        return self.root()

    def answer(self, question):
        """Return the answer to a question. Raise NotShown."""
        return ask(self._sealer, self._tree, question)

    def forget(self, names):
        """Keep open only what is needed for names."""
        self._tree = prune(self._sealer, self._tree, names)

    def next_epoch(self):
        """Begin the next epoch and return it."""
        self._epoch = self._epoch + 1
        return self._epoch
