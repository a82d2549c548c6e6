"""Books: groups that were done apart from each other, and are joined."""

from sumgrove.deeds import group_names
from sumgrove.groups import do_group
from sumgrove.refusals import BookRefused, GroupRefused


def do_all(sealer, rules, epoch, tree, groups):
    """Return the tree after all groups. Raise BookRefused, InvalidGroup, NotShown."""
    after = tree
    for place, group in enumerate(groups):
        try:
            after = do_group(sealer, rules, epoch, after, group)
        except GroupRefused as refusal:
            raise BookRefused(place, refusal.index_of_deed, refusal.word) from None
    return after


def join_books(sealer, rules, epoch, tree, first, second):
    """Return (tree, clashes) after the first book and what is not refused of the second one.

    Raise BookRefused for the first book, and InvalidGroup and NotShown for either.
    """
    after = do_all(sealer, rules, epoch, tree, first)
    clashes = []
    for place, group in enumerate(second):
        try:
            after = do_group(sealer, rules, epoch, after, group)
        except GroupRefused as refusal:
            clashes.append((place, refusal.index_of_deed, refusal.word))
    return (after, clashes)


def are_apart(rules, group, other):
    """Return True if doing two groups looks at no name in common, otherwise False."""
    names = group_names(rules, other)
    return all([name not in names for name in group_names(rules, group)])
