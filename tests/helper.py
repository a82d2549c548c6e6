"""What several test files need: small trees, cuts, and a second way to the bits of names."""

from random import Random

from sumgrove.accounts import lock_of
from sumgrove.seals import Sealer
from sumgrove.trees import build, summary_of

PRIME = 2305843009213693951
SEALER = Sealer(PRIME)
CHARACTERS = "0123456789_abcdefghijklmnopqrstuvwxyz"


def leaf(name, worths=(1,), notes=()):
    return ("leaf", name, worths, notes)


def noted(locks=(0, 0, 0), need=0, limit=0, hold=(0, 0, 0)):
    """The notes of an account."""
    return (*locks, need, limit, *hold)


def lock(key):
    return lock_of(SEALER, key)


def locked(*keys, need=1, limit=0, hold=(0, 0, 0)):
    """The notes of an account with the locks of these keys."""
    locks = [lock(key) for key in keys] + [0] * (3 - len(keys))
    return noted(tuple(locks), need, limit, hold)


def signed(name, *keys):
    """A signature with keys for the places from 0 on; each next lock is that of the key plus 100."""
    return (name, tuple((place, key, lock(key + 100)) for place, key in enumerate(keys)))


def accounts(**rows):
    """The tree of accounts that are given as name=(worths, notes) or name=worths, with notes of zeros."""
    return build([leaf(name, *row) if isinstance(row[0], tuple) else leaf(name, row, noted())
                  for name, row in rows.items()])


def refused(index, word):
    return ("GroupRefused", {"index_of_deed": index, "word": word})


def letters(text):
    """The tree of leaves with one letter each; the worth is the place in the alphabet from 1."""
    return build([leaf(letter, (ord(letter) - 96,)) for letter in text])


def bits_of(name):
    codes = [CHARACTERS.index(character) + 1 for character in name] + [0] * (8 - len(name))
    return "".join(f"{code:06b}" for code in codes)


def cut(part, sealer=SEALER):
    return ("cut", summary_of(sealer, part))


def told_cut(seal=5, count=2, sums=(7,), least="b", greatest="d"):
    return ("cut", (seal, count, sums, least, greatest))


def parts_of(tree):
    """All parts in preorder."""
    if tree is None:
        return []
    if tree[0] != "branch":
        return [tree]
    return [tree] + parts_of(tree[1]) + parts_of(tree[2])


def with_cut_at(tree, place):
    """The tree with its part at a place in preorder replaced by a cut."""
    if place == 0:
        return cut(tree)
    left = len(parts_of(tree[1]))
    if place <= left:
        return ("branch", with_cut_at(tree[1], place - 1), tree[2])
    return ("branch", tree[1], with_cut_at(tree[2], place - 1 - left))


def with_cuts(whole, cuts):
    """The whole tree with each part replaced by a cut whose cut is one of the given ones."""
    if whole is None:
        return None
    if cut(whole) in cuts:
        return cut(whole)
    if whole[0] == "branch":
        return ("branch", with_cuts(whole[1], cuts), with_cuts(whole[2], cuts))
    return whole


def random_name(random):
    # Few characters, so that names are often the beginnings of others or part late.
    return "".join(random.choice("0_abz") for _ in range(random.choice((1, 2, 2, 3, 8))))


def random_tree(random, most=9, kinds=2):
    names = {random_name(random) for _ in range(random.randrange(most + 1))}
    return build([
        leaf(name, tuple(random.randrange(9) for _ in range(kinds)), tuple(random.randrange(9) for _ in range(2)))
        for name in sorted(names)
    ])


def random_cuts(random, tree):
    """The tree with some of its parts cut, and the cuts."""
    cut_tree = tree
    for _ in range(random.randrange(3)):
        if cut_tree is not None:
            cut_tree = with_cut_at(cut_tree, random.randrange(len(parts_of(cut_tree))))
    return cut_tree, [part for part in parts_of(cut_tree) if part[0] == "cut"]


def some_trees(seed, many=60, most=9):
    random = Random(seed)
    return [random_tree(random, most) for _ in range(many)]


def some_names(tree_names, seed):
    """The names of a tree, names around them, and others."""
    random = Random(seed)
    near = [name[:-1] for name in tree_names if len(name) > 1]
    near += [name + "0" for name in tree_names if len(name) < 8]
    return sorted({*tree_names, *near, *[random_name(random) for _ in range(5)]})


def outcome(function, *arguments):
    """What a call returns, or its error with the attributes."""
    try:
        return ("returned", function(*arguments))
    except ValueError as error:
        return (error.__class__.__name__, vars(error))
