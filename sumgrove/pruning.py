"""Pruned trees: made for names or for a question, and joined."""

from sumgrove.collisions import unlike_rows
from sumgrove.errors import Unlike, WrongRoot
from sumgrove.questions import ask, questions_for_sides, told
from sumgrove.trees import goes_into, root_of, summary_of


def cut_of(sealer, part):
    """Return the cut that stands for a part; a cut stands for itself."""
    return ("cut", summary_of(sealer, part))


def prune(sealer, tree, names):
    """Return the tree in which only the parts are open into which one of the names goes."""
    if tree is None:
        return None
    going = [name for name in names if goes_into(name, tree)]
    if not going or tree[0] == "cut":
        return cut_of(sealer, tree)
    if tree[0] == "leaf":
        return tree
    return ("branch", prune(sealer, tree[1], going), prune(sealer, tree[2], going))


def prune_for(sealer, tree, question):
    """Return the tree in which only the parts are open into which a question looks. Raise NotShown."""
    # For several names, the order of the names tells which cut is named, not the order in the tree.
    ask(sealer, tree, question)
    if tree is None:
        return None
    if question[0] == "several":
        return prune_asked(sealer, tree, [("leaf", name) for name in question[1]])
    return prune_asked(sealer, tree, [question])


def prune_asked(sealer, part, questions):
    """Return a part pruned for a list of questions that it can answer."""
    looking = [question for question in questions if told(part, question) is None]
    if not looking:
        return cut_of(sealer, part)
    if part[0] == "leaf":
        return part
    asked = [questions_for_sides(part, question) for question in looking]
    left = [pair[0] for pair in asked if pair[0] is not None]
    right = [pair[1] for pair in asked if pair[1] is not None]
    return ("branch", prune_asked(sealer, part[1], left), prune_asked(sealer, part[2], right))


def join_trees(sealer, first, second):
    """Return the tree that is open where one of two trees of the same root is. Raise WrongRoot, Unlike."""
    root = root_of(sealer, second)
    if root_of(sealer, first) != root:
        raise WrongRoot(root)
    rows = unlike_rows(sealer, first, second)
    if rows is not None:
        raise Unlike(rows[0], rows[1])
    return join_parts(first, second)


def join_parts(first, second):
    """Return what is open in at least one of two parts that have no different rows."""
    if first is None or second[0] == "cut" or first[0] == "leaf":
        return first
    if first[0] == "cut":
        return second
    return ("branch", join_parts(first[1], second[1]), join_parts(first[2], second[2]))


def open_count(tree):
    """Return how many parts of a tree are leaves or branches."""
    if tree is None or tree[0] == "cut":
        return 0
    if tree[0] == "leaf":
        return 1
    return 1 + open_count(tree[1]) + open_count(tree[2])
