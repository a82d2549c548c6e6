"""The checker: answers from a pruned tree, for whoever knows only the root."""

from sumgrove.errors import InvalidTree, WrongRoot
from sumgrove.questions import ask
from sumgrove.trees import is_well_formed, root_of


def answer(sealer, root, tree, question):
    """Return the answer to a question from a tree of this root. Raise InvalidTree, WrongRoot, NotShown."""
    if not is_well_formed(sealer, tree):
        raise InvalidTree()
    actual = root_of(sealer, tree)
    if actual != root:
        raise WrongRoot(actual)
    return ask(sealer, tree, question)
